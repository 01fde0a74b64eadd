import Derived.Test.YteldpcbhfbgomaaGreatDoorRhzz
namespace Go.Proofs.YteldpcbhfbgomaaGreatDoor
open Go Go.Ev Go.Sy
set_option maxRecDepth 100000
variable {s : St} {n c d : Nat} {q r : Option Addr} {M A S D H : List Nat}
theorem three_mk {cs ds es : List Value} (w0 : Wf s) : ∃ s3 b4 b5, mkRow (mkRow (mkRow s cs) ds) es = s3 ∧ (mkRow s cs).nx = b4 ∧ (mkRow (mkRow s cs) ds).nx = b5 ∧ b4 = s.nx + 1 ∧ b5 = s.nx + 2 ∧ Rw s3 s.nx cs s.nx ∧ Rw s3 b4 ds b4 ∧ Rw s3 b5 es b5 ∧ Kn s s3 :=
 ⟨_, _, _, rfl, rfl, rfl, rfl, rfl, (mkRow_rw.kp (mkRow_wf w0) mkRow_kn id).kp (mkRow_wf (mkRow_wf w0)) mkRow_kn id, mkRow_rw.kp (mkRow_wf (mkRow_wf w0)) mkRow_kn id, mkRow_rw, (mkRow_kn.call mkRow_kn).call mkRow_kn⟩
def co (H : List Nat) (n i : Nat) : Nat := cb1 (n - 8 * i) (H.getD i 0)
def cl (H : List Nat) (n i : Nat) : List Nat := (List.range i).map (co H n) ++ List.replicate (32 - i) 0
theorem cl_len {i : Nat} (h : i ≤ 32) : (cl H n i).length = 32 := by unfold cl; rw [List.length_append, List.length_map, List.length_range, List.length_replicate]; omega
theorem cl_set {i : Nat} (h : i < 32) : lov ((cl H n i).map nB) (0 + i * 1) [nB (co H n i)] = (cl H n (i + 1)).map nB := by
 have e := lov_app (a := ((List.range i).map (co H n)).map nB) (b := [nB 0]) (c := (List.replicate (32 - (i + 1)) 0).map nB) (vs := [nB (co H n i)]) (o := 0 + i * 1) (by simp) rfl
 have e1 : (cl H n i).map nB = ((List.range i).map (co H n)).map nB ++ ([nB 0] ++ (List.replicate (32 - (i + 1)) 0).map nB) := by
  unfold cl
  rw [show 32 - i = (32 - (i + 1)) + 1 by omega, List.replicate_succ, List.map_append]; rfl
 have e2 : (cl H n (i + 1)).map nB = ((List.range i).map (co H n)).map nB ++ ([nB (co H n i)] ++ (List.replicate (32 - (i + 1)) 0).map nB) := by
  unfold cl
  rw [List.range_succ, List.map_append, List.map_append, List.map_append, List.append_assoc]; rfl
 rw [e1, e, e2]
theorem cl_same {i : Nat} (h : i < 32) (h0 : co H n i = 0) : cl H n (i + 1) = cl H n i := by
 unfold cl
 rw [show 32 - i = (32 - (i + 1)) + 1 by omega, List.replicate_succ, List.range_succ, List.map_append, List.map_cons, h0]; simp
set_option maxHeartbeats 1600000 in
theorem rcut_ok (w0 : Wf s) (hH : H.length = 32) (hb : ∀ x ∈ H, x < 256) (hn : n < 2 ^ 40) :
  Cl B (.call 57 [nI n, hsh H]) s fun v s' => v = hsh (cutOf H n) ∧ Kn s s' := by
 refine Cl.enter Tryz.f57 fn57 rfl rfl rfl ?_
 refine run1 ?_
 obtain ⟨z, hz⟩ : ∃ z : List Value, z = (List.replicate 32 0).map nB := ⟨_, rfl⟩
 have hzl : z.length = 32 := by rw [hz]; rfl
 obtain ⟨s3, b4, b5, f1, f2, f3, hb4, hb5, rH, r4, r5, k3⟩ := three_mk (cs := H.map nB) (ds := z) (es := z) w0
 rw [show mkRow (mkRow (mkRow s _) _) _ = s3 from (by rw [← f1, hz]; rfl), show (mkRow (mkRow s _) _).nx = b5 from (by rw [← f3, hz]; rfl), show (mkRow s _).nx = b4 from f2]
 have w3 : Wf s3 := k3.wf w0
 have r5' : Rw s3 b5 ((cl H n 0).map nB) b5 := by rw [hz] at r5; exact r5
 refine W.loop (α := Nat × St) (fun a => [(0, nI n), (3, .pointer (some ⟨s.nx, 0, none⟩)), (4, .pointer (some ⟨b4, 0, none⟩)), (5, .pointer (some ⟨b5, 0, none⟩)), (6, nI a.1)]) (fun _ => []) (fun a => a.2)
  (fun a => a.1 ≤ 32 ∧ Rw a.2 b5 ((cl H n a.1).map nB) b5 ∧ Kp (fun c => c = b5) s3 a.2) (fun a => 32 - a.1) (0, s3) ⟨Nat.zero_le _, r5', .refl⟩ (.cons rfl (.cons rfl (.cons rfl (.cons rfl (.cons rfl .nil))))) rfl rfl (by show 32 - 0 < _; decide) ?_
 rintro ⟨i, t0⟩ ⟨i1, i2, i3⟩
 simp only at i1 i2 i3
 dsimp only
 have wt : Wf t0 := i3.wf w3
 by_cases hi : i < 32
 ·obtain ⟨zz, hzz⟩ : ∃ zz : Int, zz = (n : Int) - ((8 * i : Nat) : Int) := ⟨_, rfl⟩
  have hx : H.getD i 0 < 256 := by rw [List.getD_eq_getElem?_getD, List.getElem?_eq_getElem (by omega)]; exact hb _ (List.getElem_mem _)
  obtain ⟨x, ex⟩ : ∃ x, x = H.getD i 0 := ⟨_, rfl⟩
  have rHt := rH.kp w3 i3 (by omega)
  have hld : ldq t0 (some ⟨s.nx, 0 + i * 1, none⟩) = some (nB x) := by
   have := Bs.ld (A := H) (i := i) rHt.ats (by omega)
   rw [ex]; exact this
  rw [← ex] at hx
  have hco : co H n i = cb1 (n - 8 * i) x := by rw [co, ex]
  refine run1 ?_
  refine Wo.val rfl (Xv.subZ rfl rfl (by omega) (by omega) hzz) rfl (run1 ?_)
  by_cases h8 : (8 : Int) ≤ zz
  ·have hc : co H n i = x := by rw [hco, cb1, if_pos (by omega)]
   refine W.condA rfl h8 (run1 ?_)
   refine Wo.val rfl (Xv.iaP rfl rfl rfl rfl hi) rfl (run1 ?_)
   refine Wo.val rfl (Xv.iaP rfl rfl rfl rfl hi) rfl ?_
   refine Wo.st rfl rfl rfl rfl rfl rfl rfl (by intro v hv; rw [List.mem_singleton.1 hv]; rfl) i2 (by rw [List.length_map, cl_len i1]; show 0 + i * 1 + 1 ≤ 32; omega) fun t1 y1 y2 y3 => ?_
   rw [← hc, cl_set hi] at y1
   refine run1 ?_
   exact rnd.n (i + 1, t1) ⟨hi, y1, i3.trans y3⟩ (by show 32 - (i + 1) < 32 - i; omega) (.cons rfl (.cons rfl (.cons rfl (.cons rfl (.cons rfl .nil))))) rfl rfl
  ·refine W.condN rfl h8 (run1 ?_)
   by_cases h0 : (0 : Int) < zz
   ·obtain ⟨l, hl⟩ : ∃ l, l = n - 8 * i := ⟨_, rfl⟩
    have ezz : zz = Int.ofNat l := by show zz = (l : Int); omega
    have hc : co H n i = x - x % 2 ^ (8 - l) := by rw [hco, ← hl, cb1, if_neg (by omega), if_pos (by omega)]
    have hl1 : 1 ≤ l := by omega
    have hl8 : l < 8 := by omega
    refine W.condA rfl h0 (run1 ?_)
    rw [ezz]
    refine W.loop (α := Nat) (fun j => [(0, nI n), (3, .pointer (some ⟨s.nx, 0, none⟩)), (4, .pointer (some ⟨b4, 0, none⟩)), (5, .pointer (some ⟨b5, 0, none⟩)), (6, nI i), (8, nB (2 ^ (j - l))), (9, nI j)]) (fun _ => []) (fun _ => t0)
     (fun j => l ≤ j ∧ j ≤ 8) (fun j => 8 - j) l ⟨Nat.le_refl _, by omega⟩ (.cons rfl (.cons rfl (.cons rfl (.cons rfl (.cons rfl (.cons ?_ (.cons rfl .nil))))))) rfl rfl (by show 8 - l < _; omega) ?_
    ·show some (nB 1) = some (nB (2 ^ (l - l)))
     rw [Nat.sub_self]
    intro j hj
    have hj1 := hj.1
    have hj2 := hj.2
    by_cases hj8 : j < 8
    ·refine run1 ?_
     refine rnd.n (j + 1) ⟨by omega, by omega⟩ (by omega) (.cons rfl (.cons rfl (.cons rfl (.cons rfl (.cons rfl (.cons ?_ (.cons rfl .nil))))))) rfl rfl
     show some (nB ((2 ^ (j - l) * 2) % 256)) = some (nB (2 ^ (j + 1 - l)))
     have e : 2 ^ (j + 1 - l) = 2 ^ (j - l) * 2 := by rw [show j + 1 - l = (j - l) + 1 by omega, Nat.pow_succ]
     have hlt : 2 ^ (j - l) * 2 < 256 := by
      rw [← e]
      exact Nat.pow_lt_pow_right (a := 2) (by decide) (show j + 1 - l < 8 by omega)
     rw [e, Nat.mod_eq_of_lt hlt]
    ·obtain rfl : j = 8 := by omega
     obtain ⟨K, hK⟩ : ∃ K, K = 2 ^ (8 - l) := ⟨_, rfl⟩
     have hKp : 0 < K := by rw [hK]; exact Nat.pow_pos (by decide)
     rw [← hK] at hc ⊢
     have hmod : x % K ≤ x := Nat.mod_le _ _
     refine run1 ?_
     refine W.dr [(0, .none, 0), (1, .none, 0), (2, .none, 2), (3, .reads, 6), (4, .none, 0), (5, .none, 16), (6, .reads, 48), (7, .none, 0), (8, .none, 240), (9, .none, 510), (10, .none, 1023), (11, .acts, 2047)] (by kernel_rfl) rfl (run1 ?_)
     refine Wd.val rfl (Xv.iaP rfl rfl rfl rfl hi) rfl (Nat.le_refl _) (run1 ?_)
     refine Wd.val rfl (Xv.iaP rfl rfl rfl rfl hi) rfl (Nat.le_refl _) (run1 ?_)
     refine Wd.val rfl (Xv.ar (r := x % K) rfl rfl rfl (by show cond (Nat.beq K 0) none (some (x % K)) = _; rw [show Nat.beq K 0 = false by cases hq : Nat.beq K 0 with | false => rfl | true => exact absurd (Nat.eq_of_beq_eq_true hq) (by omega)]; rfl)) rfl (Nat.le_refl _) ?_
     refine Wd.val rfl (Xv.ar (r := x - x % K) rfl rfl rfl (by show cond (Nat.ble (x % K) x) (some ((x - x % K) % 256)) _ = _; rw [Nat.ble_eq_true_of_le hmod, Nat.mod_eq_of_lt (by omega)]; rfl)) rfl (Nat.le_refl _) ?_
     refine Wd.val rfl (Xv.iaP rfl rfl rfl rfl hi) rfl (Nat.le_refl _) ?_
     refine Wd.st rfl rfl rfl rfl rfl rfl rfl (by intro v hv; rw [List.mem_singleton.1 hv]; rfl) i2 (by rw [List.length_map, cl_len i1]; show 0 + i * 1 + 1 ≤ 32; omega) fun t1 y1 y2 y3 => ?_
     rw [← hc, cl_set hi] at y1
     refine run1 ?_
     exact rnd.n (i + 1, t1) ⟨hi, y1, i3.trans y3⟩ (by show 32 - (i + 1) < 32 - i; omega) (.cons rfl (.cons rfl (.cons rfl (.cons rfl (.cons rfl .nil))))) rfl rfl
   ·have hc : co H n i = 0 := by rw [hco, cb1, if_neg (by omega), if_neg (by omega)]
    refine W.condN rfl h0 (run1 ?_)
    exact rnd.n (i + 1, t0) ⟨hi, by show Rw t0 b5 ((cl H n (i + 1)).map nB) b5; rw [cl_same hi hc]; exact i2, i3⟩ (by show 32 - (i + 1) < 32 - i; omega) (.cons rfl (.cons rfl (.cons rfl (.cons rfl (.cons rfl .nil))))) rfl rfl
 ·have e : i = 32 := by omega
  subst e
  have ecl : cl H n 32 = cutOf H n := by rw [cutOf_eq hH hb]; unfold cl; rw [Nat.sub_self, List.replicate_zero, List.append_nil]; rfl
  rw [ecl] at i2
  obtain ⟨F, hF⟩ : ∃ F, F = cutOf H n := ⟨_, rfl⟩
  have hFl : F.length = 32 := by rw [hF]; exact ctN_length.trans hH
  rw [← hF] at i2 ⊢
  have lF := i2.all (n := 32) (by rw [List.length_map, hFl]) (by decide)
  refine run1 ?_
  refine Wo.st rfl rfl rfl rfl rfl rfl (by rw [List.length_map, hFl]) one_nB (r4.kp w3 i3 (by omega)) (by rw [hzl]; decide) fun s7 r7 n7 k7 => ?_
  rw [lov_all (by rw [List.length_map, hFl, hzl])] at r7
  refine run1 ?_
  have hcl := cell_at (B := B) (t := 23) (n := 32) (k := .ar 32 5) rfl rfl r7 (by rw [List.length_map, hFl]) rfl
  refine Lv.ret (vs := [hsh F]) ?_ ⟨rfl, (k3.app i3 (by omega)).app k7 (by omega)⟩
  show (match cell1 B.P (.pointer (some ⟨b4, 0, none⟩)) 23 s7, some [] with | some v, some vs => some (v :: vs) | _, _ => none) = _
  rw [hcl]; rfl
theorem rcode4_ok {nb : Nat} (hnb : nb ≤ 256) (w0 : Wf s) (hT : TabAt s) (ha : Bs s q S) (hS : ∀ x ∈ S, x < 256) (hl : S.length < 2 ^ 40) (hm : Bs s r M) (hM : ∀ x ∈ M, x < 256) (hml : M.length < 2 ^ 39) :
  Cl B (.call 41 [nI nb, .slice q S.length c, .slice r M.length d]) s fun v s' => v = hsh (cutOf (hmc S M) nb) ∧ Kn s s' := by
 refine Cl.enter Tryz.f41 fn41 rfl rfl rfl ?_
 refine run1 ?_
 refine mk_gen (cs := (List.replicate 32 0).map nB) (M := fun s' => Wo _ _ _ _ _ s' _) fun s1 r1 n1 k1 => ?_
 have w1 : Wf s1 := k1.wf w0
 refine Wo.call rfl (Xc.call ok56 rfl) rfl ((rcode3_ok w1 (hT.kpN w0 (k1.mono fun _ h => absurd h id)) (ha.kn w0 k1) hS hl (hm.kn w0 k1) hM hml).mono ?_)
 rintro v s2 ⟨rfl, k2⟩
 have w2 : Wf s2 := k2.wf w1
 obtain ⟨D, hD⟩ : ∃ D, D = hmc S M := ⟨_, rfl⟩
 have hDl : D.length = 32 := by rw [hD]; exact hmc_length
 have hDb : ∀ x ∈ D, x < 256 := by rw [hD]; exact sumN_byte
 rw [← hD]
 refine run1 ?_
 refine mk_gen (cs := (List.replicate 32 0).map nB) (M := fun s' => Wo _ _ _ _ _ s' _) fun s3 r3 n3 k3 => ?_
 have w3 : Wf s3 := k3.wf w2
 refine Wo.st rfl rfl rfl rfl rfl rfl (by rw [List.length_map, hDl]) one_nB r3 (by rw [List.length_map, List.length_replicate]; decide) fun s4 r4 n4 k4 => ?_
 rw [lov_all (by rw [List.length_map, List.length_map, hDl, List.length_replicate])] at r4
 have k14 : Kn s1 s4 := k2.call (k3.app k4 (Nat.le_refl _))
 have w4 : Wf s4 := k14.wf w1
 have l4 := r4.all (n := 32) (by rw [List.length_map, hDl]) (by decide)
 refine run1 ?_
 refine Wo.call rfl (Xc.call ok57 rfl) rfl ((rcut_ok w4 hDl hDb (by omega)).mono ?_)
 rintro v s5 ⟨rfl, k5⟩
 have w5 : Wf s5 := k5.wf w4
 obtain ⟨F, hF⟩ : ∃ F, F = cutOf D nb := ⟨_, rfl⟩
 have hFl : F.length = 32 := by rw [hF]; exact ctN_length.trans hDl
 rw [← hF]
 refine run1 ?_
 have k15 : Kn s1 s5 := k14.call k5
 refine Wo.st rfl rfl rfl rfl rfl rfl (by rw [List.length_map, hFl]) one_nB (r1.kp w1 k15 id) (by rw [List.length_map, List.length_replicate]; decide) fun s6 r6 n6 k6 => ?_
 rw [lov_all (by rw [List.length_map, List.length_map, hFl, List.length_replicate])] at r6
 refine run1 ?_
 have hcl := cell_at (B := B) (t := 23) (n := 32) (k := .ar 32 5) rfl rfl r6 (by rw [List.length_map, hFl]) rfl
 refine Lv.ret (vs := [hsh F]) ?_ ⟨rfl, (k1.call k15).app k6 (Nat.le_refl _)⟩
 show (match cell1 B.P (.pointer (some ⟨s.nx, 0, none⟩)) 23 s6, some [] with | some v, some vs => some (v :: vs) | _, _ => none) = _
 rw [hcl]; rfl
open Go Go.Ev Go.Sy
set_option maxRecDepth 100000
variable {s : St} {n c d : Nat} {q r : Option Addr} {M A S D : List Nat}
def New (s s' : St) (v : Value) (A : List Nat) : Prop := ∃ q c γ, v = .slice q A.length c ∧ Gw s' q A.length c 1 (A.map nB) γ ∧ s.nx ≤ γ ∧ Kn s s'
theorem rnumber_ok (w0 : Wf s) (hn : n < 2 ^ 62) : Cl B (.call 23 [nI n]) s fun v s' => New s s' v (dgs n) := by
 have hle := dgs_len (k := 8) (n := n) (by omega)
 refine Cl.enter Tryz.f23 fn23 rfl rfl rfl ?_
 refine run1 ?_
 refine W.loop (α := Nat × List Nat × Option Addr × Nat × Nat × St) (fun a => [(0, nI a.1), (3, .slice a.2.2.1 a.2.1.length a.2.2.2.1)]) (fun _ => []) (fun a => a.2.2.2.2.2)
  (fun a => a.1 ≤ n ∧ dgs a.1 ++ a.2.1 = dgs n ∧ Gw a.2.2.2.2.2 a.2.2.1 a.2.1.length a.2.2.2.1 1 (a.2.1.map nB) a.2.2.2.2.1 ∧ s.nx ≤ a.2.2.2.2.1 ∧ Kn s a.2.2.2.2.2) (fun a => a.1) (n, [], none, 0, s.nx, s) ⟨Nat.le_refl _, List.append_nil _, Gw.nil, Nat.le_refl _, .refl⟩ (.cons rfl (.cons rfl .nil)) rfl rfl (by show n < _; omega) ?_
 rintro ⟨m, A, q, c, γ, t0⟩ ⟨i1, i2, i3, i4, i5⟩
 simp only at i1 i2 i3 i4 i5
 dsimp only
 have wt : Wf t0 := i5.wf w0
 by_cases h : 0 < m
 ·have e1 := dgsN (n := m) (by omega)
  have hA : A.length ≤ 8 := by have := congrArg List.length i2; rw [List.length_append] at this; omega
  refine run1 ?_
  refine mk_gen (M := fun s' => Wo _ _ _ _ _ s' _) fun t1 r1 n1 k1 => ?_
  have wt1 : Wf t1 := k1.wf wt
  have r1' : Rw t1 t0.nx ([m % 256].map nB) t0.nx := by
   have e : (m.mod 256).mod 256 = m % 256 := by show m % 256 % 256 = _; omega
   rw [← e]; exact r1
  have i3' := i3.kp wt k1 id
  refine Wo.app rfl rfl rfl rfl rfl rfl rfl rfl rfl wt1 (r1'.gw rfl) rfl (Bs.cells i3'.sl.at) (by rw [List.length_map, Nat.mul_one]) one_nB rfl (by omega) (by omega) ?_
  intro q2 c2 γ2 t2 h1 h2 h3
  have e2 : 1 + A.length = (m % 256 :: A).length := by rw [List.length_cons, Nat.add_comm]
  rw [e2] at h1 ⊢
  refine run1 ?_
  have hle0 := i5.le
  refine rnd.n (m / 256, m % 256 :: A, q2, c2, γ2, t2) ⟨by show m / 256 ≤ n; omega, ?_, h1, ?_, (i5.call k1).app h2 hle0⟩ (by show m / 256 < m; omega) (.cons rfl (.cons rfl .nil)) rfl rfl
  ·show dgs (m / 256) ++ m % 256 :: A = dgs n
   rw [← i2, e1]; simp
  ·show s.nx ≤ γ2
   rcases h3 with h | ⟨h, _⟩ <;> omega
 ·obtain rfl : m = 0 := by omega
  rw [dgs0, List.nil_append] at i2
  subst i2
  refine run1 ?_
  exact Lv.ret rfl ⟨q, c, γ, rfl, i3, i4, i5⟩
theorem rheaded_ok {base : Nat} (hb : base = 128 ∨ base = 192) (w0 : Wf s) (ha : Bs s q A) (hA : A.length < 2 ^ 40) : Cl B (.call 22 [nB base, .slice q A.length c]) s fun v s' => New s s' v (hd base A.length ++ A) := by
 refine Cl.enter Tryz.f22 fn22 rfl rfl rfl ?_
 by_cases h : A.length < 56
 ·refine run1 ?_
  refine mk_gen (M := fun s' => Wo _ _ _ _ _ s' _) fun s1 r1 n1 k1 => ?_
  have w1 : Wf s1 := k1.wf w0
  have r1' : Rw s1 s.nx ((hd base A.length).map nB) s.nx := by
   have e : (base + A.length.mod 256).mod 256 = base + A.length := by show (base + A.length % 256) % 256 = _; omega
   rw [hd, if_pos h, ← e]; exact r1
  have hl : (hd base A.length).length = 1 := by rw [hd, if_pos h]; rfl
  refine Wo.app rfl rfl rfl rfl rfl rfl rfl rfl rfl w1 (r1'.gw (by rw [List.length_map, hl])) rfl (ha.kn w0 k1).cells (by rw [List.length_map, Nat.mul_one]) one_nB rfl (by omega) (by omega) ?_
  intro q2 c2 γ2 s2 h1 h2 h3
  have e2 : 1 + A.length = (hd base A.length ++ A).length := by rw [List.length_append, hl]
  rw [e2, ← List.map_append] at h1
  rw [e2]
  refine run1 ?_
  refine Lv.ret rfl ⟨q2, c2, γ2, rfl, h1, ?_, k1.app h2 (Nat.le_refl _)⟩
  rcases h3 with h | ⟨h, _⟩ <;> omega
 ·have hle := dgs_len (k := 8) (n := A.length) (by omega)
  refine run1 ?_
  refine Wo.call rfl (Xc.call ok23 rfl) rfl ((rnumber_ok w0 (by omega)).mono ?_)
  rintro v s1 ⟨q1, c1, γ1, rfl, g1, l1, k1⟩
  have w1 : Wf s1 := k1.wf w0
  refine run1 ?_
  refine mk_gen (M := fun s' => Wo _ _ _ _ _ s' _) fun s2 r2 n2 k2 => ?_
  have w2 : Wf s2 := k2.wf w1
  have r2' : Rw s2 s1.nx ([base + 55 + (dgs A.length).length].map nB) s1.nx := by
   have e : ((base + 55).mod 256 + (dgs A.length).length.mod 256).mod 256 = base + 55 + (dgs A.length).length := by show ((base + 55) % 256 + (dgs A.length).length % 256) % 256 = _; omega
   rw [← e]; exact r2
  refine Wo.app rfl rfl rfl rfl rfl rfl rfl rfl rfl w2 (r2'.gw rfl) rfl (Bs.cells (g1.kp w1 k2 id).sl.at) (by rw [List.length_map, Nat.mul_one]) one_nB rfl (by omega) (by omega) ?_
  intro q3 c3 γ3 s3 h1 h2 h3
  have k13 : Kn s1 s3 := k2.app h2 (Nat.le_refl _)
  have w3 : Wf s3 := k13.wf w1
  have k03 : Kn s s3 := k1.call k13
  have ehd : hd base A.length = (base + 55 + (dgs A.length).length) :: dgs A.length := by rw [hd, if_neg h]
  have e3 : 1 + (dgs A.length).length = (hd base A.length).length := by rw [ehd, List.length_cons, Nat.add_comm]
  rw [e3, ← List.map_append, List.singleton_append, ← ehd] at h1
  rw [e3]
  have hl3 : s.nx ≤ γ3 := by have := k1.le; rcases h3 with h | ⟨h, _⟩ <;> omega
  refine Wo.val rfl (Xv.move rfl) rfl ?_
  refine Wo.app rfl rfl rfl rfl rfl rfl rfl rfl rfl w3 h1 rfl (ha.kn w0 k03).cells (by rw [List.length_map, Nat.mul_one]) one_nB rfl (by omega) (by omega) ?_
  intro q4 c4 γ4 s4 j1 j2 j3
  rw [← List.length_append, ← List.map_append] at j1
  rw [← List.length_append]
  refine run1 ?_
  refine Lv.ret rfl ⟨q4, c4, γ4, rfl, j1, ?_, k03.app j2 hl3⟩
  have := k03.le
  rcases j3 with h | ⟨h, _⟩ <;> omega
theorem rtext_ok (w0 : Wf s) (ha : Bs s q A) (hA : A.length < 2 ^ 40) : Cl B (.call 21 [.slice q A.length c]) s fun v s' => New s s' v (fS A) := by
 refine Cl.enter Tryz.f21 fn21 rfl rfl rfl ?_
 by_cases h1 : A.length = 1
 ·by_cases h2 : A.getD 0 0 < 128
  ·refine run1 ?_
   refine mk_gen (M := fun s' => Lv _ _ _ _ _ _ s') fun s1 r1 n1 k1 => ?_
   have e : fS A = A := by rw [fS, if_pos ⟨h1, h2⟩]
   have eA : A = [A.getD 0 0] := by
    match A, h1 with
    | [x], _ => rfl
   refine Lv.ret rfl ⟨some ⟨s.nx, 0, none⟩, sure 1, s.nx, by rw [e, h1]; rfl, ?_, Nat.le_refl _, k1⟩
   rw [e, h1, eA]
   exact Rw.gw r1 rfl
  ·refine run1 ?_
   refine Wo.call rfl (Xc.call ok22 rfl) rfl ((rheaded_ok (.inl rfl) w0 ha hA).mono ?_)
   rintro v s1 h
   refine run1 ?_
   refine Lv.ret rfl ?_
   rw [fS, if_neg (fun k => h2 k.2)]; exact h
 ·refine run1 ?_
  refine Wo.call rfl (Xc.call ok22 rfl) rfl ((rheaded_ok (.inl rfl) w0 ha hA).mono ?_)
  rintro v s1 h
  refine run1 ?_
  refine Lv.ret rfl ?_
  rw [fS, if_neg (fun k => h1 k.1)]; exact h
open Go Go.Ev Go.Sy
set_option maxRecDepth 100000
variable {s : St} {n c d : Nat} {q r : Option Addr} {M A S D : List Nat}
theorem tab255 : ((List.range 256).all fun x => Nat.beq ((x ^^^ 255) % 256) (255 - x)) = true := by kernel_rfl
theorem xor255 {x : Nat} (h : x < 256) : (x ^^^ 255) % 256 = 255 - x := Nat.eq_of_beq_eq_true (List.all_eq_true.1 tab255 x (List.mem_range.2 h))
theorem sub255 {x : Nat} (h : x < 256) : arN .sub .u8 255 x = some (255 - x) := by
 show cond (Nat.ble x 255) (some ((255 - x) % 256)) _ = _
 rw [Nat.ble_eq_true_of_le (by omega), Nat.mod_eq_of_lt (by omega)]; rfl
theorem rwrap_ok (w0 : Wf s) (ha : Bs s q A) (hA : A.length ≤ 16384) : Cl B (.call 25 [.slice q A.length c]) s fun v s' => ∃ u, v = .tuple ⟨[u, nI 0]⟩ ∧ New s s' u (fw A) := by
 refine Cl.enter Tryz.f25 fn25 rfl rfl rfl ?_
 have h0 : ¬ 16384 < A.length := by omega
 refine run1 ?_
 obtain ⟨x0, e0⟩ : ∃ x, x = (A.length >>> 16) % 256 := ⟨_, rfl⟩
 obtain ⟨x1, e1⟩ : ∃ x, x = (A.length >>> 8) % 256 := ⟨_, rfl⟩
 obtain ⟨x2, e2⟩ : ∃ x, x = A.length % 256 := ⟨_, rfl⟩
 have s16 : A.length >>> 16 = A.length / 65536 := Nat.shiftRight_eq_div_pow _ 16
 have s8 : A.length >>> 8 = A.length / 256 := Nat.shiftRight_eq_div_pow _ 8
 have l0 : x0 < 256 := by omega
 have l1 : x1 < 256 := by omega
 have l2 : x2 < 256 := by omega
 refine mk_gen (M := fun s' => W _ _ _ _ s' _) fun s1 r1 n1 k1 => ?_
 have w1 : Wf s1 := k1.wf w0
 have r1' : Rw s1 s.nx ([x0, x1, x2].map nB) s.nx := by
  have a0 : (A.length / 65536).mod 256 = x0 := by show A.length / 65536 % 256 = _; omega
  have a1 : ((A.length / 256).mod 256).mod 256 = x1 := by show A.length / 256 % 256 % 256 = _; omega
  have a2 : (A.length.mod 256).mod 256 = x2 := by show A.length % 256 % 256 = _; omega
  rw [← a0, ← a1, ← a2]; exact r1
 have gd : good (some ⟨s.nx, 0, none⟩) := good_b
 have b1 : Bs s1 (some ⟨s.nx, 0, none⟩) [x0, x1, x2] := r1'.ats
 have d0 : ldq s1 (qadd (some ⟨s.nx, 0, none⟩) (0 * 1)) = some (nB x0) := r1'.f1 rfl
 have d1 : ldq s1 (qadd (some ⟨s.nx, 0, none⟩) (1 * 1)) = some (nB x1) := r1'.f1 rfl
 have d2 : ldq s1 (qadd (some ⟨s.nx, 0, none⟩) (2 * 1)) = some (nB x2) := r1'.f1 rfl
 refine W.dr [(0, .none, 0), (1, .none, 1), (2, .reads, 3), (3, .none, 0), (4, .none, 8), (5, .reads, 24), (6, .none, 0), (7, .none, 64), (8, .reads, 192), (9, .none, 0), (10, .none, 512), (11, .reads, 1536), (12, .none, 3584), (13, .none, 0), (14, .none, 8192), (15, .reads, 24576), (16, .none, 57344), (17, .none, 0), (18, .none, 131072), (19, .reads, 393216), (20, .none, 917504), (21, .makes, 2097151), (22, .none, 4194303)] (by kernel_rfl) rfl (run1 ?_)
 refine Wd.val rfl (Xv.ar (a := 255) (b := x0) rfl rfl rfl (sub255 l0)) rfl (Nat.le_refl _) (run1 ?_)
 refine Wd.val rfl (Xv.ar (a := 255) (b := x1) rfl rfl rfl (sub255 l1)) rfl (Nat.le_refl _) (run1 ?_)
 refine Wd.val rfl (Xv.ar (a := 255) (b := x2) rfl rfl rfl (sub255 l2)) rfl (Nat.le_refl _) (run1 ?_)
 refine mk_gen (M := fun s' => Wo _ _ _ _ _ s' _) fun s2 r2 n2 k2 => ?_
 have w2 : Wf s2 := k2.wf w1
 have r2' : Rw s2 s1.nx ((fh A.length).map nB) s1.nx := by
  have e : fh A.length = [202, x0, x1, x2, 255 - x0, 255 - x1, 255 - x2] := by
   unfold fh
   rw [← e0, ← e1, ← e2, xor255 l0, xor255 l1, xor255 l2]
  rw [e]; exact r2
 have k02 : Kn s s2 := k1.call k2
 refine Wo.app rfl rfl rfl rfl rfl rfl rfl rfl rfl w2 (r2'.gw rfl) rfl (ha.kn w0 k02).cells (by rw [List.length_map, Nat.mul_one]) one_nB rfl (by omega) (by omega) ?_
 intro q3 c3 γ3 s3 h1 h2 h3
 have e3 : 7 + A.length = (fw A).length := by rw [fw, List.length_append]; rfl
 rw [e3, ← List.map_append] at h1
 rw [e3]
 refine run1 ?_
 refine Lv.ret rfl ⟨_, rfl, q3, c3, γ3, rfl, h1, ?_, k02.app h2 k1.le⟩
 have := k1.le
 rcases h3 with h | ⟨h, _⟩ <;> omega
end Go.Proofs.YteldpcbhfbgomaaGreatDoor
