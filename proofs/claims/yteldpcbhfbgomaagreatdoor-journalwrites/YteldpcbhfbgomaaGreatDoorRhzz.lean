import Derived.Test.YteldpcbhfbgomaaGreatDoorRfzz
namespace Go.Sy
open Go Go.Ev
theorem Rw.gw {s : St} {b γ n size : Nat} {cs : List Value} (h : Rw s b cs γ) (hl : cs.length = n * size) : Gw s (some ⟨b, 0, none⟩) n (sure n) size cs γ := by
 obtain ⟨g, h1, h2⟩ := h
 exact ⟨hl, .inr ⟨b, g, rfl, h1, h2, .inr rfl⟩⟩
end Go.Sy
namespace Go.Proofs.YteldpcbhfbgomaaGreatDoor
open Go Go.Ev Go.Sy
set_option maxRecDepth 100000
variable {s : St} {n c : Nat} {q : Option Addr} {M A S D : List Nat}
theorem rblock_ok {x : Nat} (w0 : Wf s) (hT : TabAt s) (ha : Bs s q S) (hS : ∀ x ∈ S, x < 256) (hl : S.length < 2 ^ 40) :
  Cl B (.call 77 [.slice q S.length c, nB x]) s fun v s' => ∃ b, v = .slice (some ⟨b, 0, none⟩) 64 (sure 64) ∧ s.nx ≤ b ∧ Rw s' b ((mk x (kb S)).map nB) b ∧ Kn s s' := by
 refine Cl.enter Tryz.f77 fn77 rfl rfl rfl ?_
 refine run1 ?_
 refine Wo.val rfl (Xv.make rfl rfl rfl rfl rfl (Nat.le_refl _) rfl (by decide) (by decide)) rfl ?_
 refine mk_gen (M := fun s' => Wo _ _ _ _ _ s' _) fun s1 r1 n1 k1 => ?_
 have r1' : Rw s1 s.nx ((List.replicate 64 0).map nB) s.nx := by
  rw [← rep_flat]; exact r1
 clear r1
 have w1 : Wf s1 := k1.wf w0
 refine run1 ?_
 refine W.meet (α := St) (fun _ => [(1, nB x), (5, .slice (some ⟨s.nx, 0, none⟩) 64 (sure 64))]) (fun a => a) (fun a => Rw a s.nx ((kb S).map nB) s.nx ∧ Kn s a) ?_ ?_
 ·refine W.cond rfl (fun h => ?_) (fun h => ?_)
  ·refine run1 ?_
   refine Wo.call rfl (Xc.call ok78 rfl) rfl ((rsum_ok w1 (hT.kpN w0 (k1.mono fun _ h => absurd h id)) (ha.kn w0 k1) hS hl).mono ?_)
   rintro v s2 ⟨rfl, k2⟩
   have w2 : Wf s2 := k2.wf w1
   obtain ⟨D, hD⟩ : ∃ D, D = shaOf S := ⟨_, rfl⟩
   have hDl : D.length = 32 := by rw [hD]; exact shaOf_length
   rw [← hD]
   refine run1 ?_
   refine mk_gen (cs := (List.replicate 32 0).map nB) (M := fun s' => Wo _ _ _ _ _ s' _) fun s3 r3 n3 k3 => ?_
   have w3 : Wf s3 := k3.wf w2
   refine Wo.st rfl rfl rfl rfl rfl rfl (by rw [List.length_map, hDl]) one_nB r3 (by rw [List.length_map, List.length_replicate]; decide) fun s4 r4 n4 k4 => ?_
   rw [lov_all (by rw [List.length_map, List.length_map, hDl, List.length_replicate])] at r4
   have k14 : Kn s1 s4 := k2.call (k3.app k4 (Nat.le_refl _))
   have w4 : Wf s4 := k14.wf w1
   refine run1 ?_
   refine Wo.val rfl (Xv.slP (b := s2.nx) (o := 0) rfl rfl rfl (by decide)).1 rfl (run1 ?_)
   refine Wo.cpy rfl rfl rfl rfl rfl rfl rfl (r1'.kp w1 k14 id) r4.ats (by rw [List.length_map, hDl]) one_nB (by rw [List.length_map, List.length_replicate]; decide) fun s5 r5 n5 k5 => ?_
   have r5' : Rw s5 s.nx ((kb S).map nB) s.nx := by
    have e : lov ((List.replicate 64 0).map nB) 0 (D.map nB) = (kb S).map nB := by
     have := lov_app (a := []) (b := (List.replicate 32 0).map nB) (c := (List.replicate 32 0).map nB) (vs := D.map nB) (o := 0) rfl (by rw [List.length_map, hDl]; rfl)
     unfold kb
     rw [if_pos h, ← hD]
     dsimp only
     rw [hDl, List.map_append]
     exact this
    rw [← e]
    have e2 : (D.map nB).take (min 32 64 * 1) = D.map nB := List.take_of_length_le (by rw [List.length_map, hDl]; decide)
    rw [e2] at r5
    exact r5
   refine run1 ?_
   exact meet.n s5 ⟨r5', (k1.call k14).app k5 (Nat.le_refl _)⟩ (.cons rfl (.cons rfl .nil)) rfl
  ·refine run1 ?_
   refine Wo.cpy rfl rfl rfl rfl rfl rfl rfl r1' (ha.kn w0 k1) (by rw [List.length_map, Nat.mul_one]) one_nB (by rw [List.length_map, List.length_replicate]; decide) fun s5 r5 n5 k5 => ?_
   have r5' : Rw s5 s.nx ((kb S).map nB) s.nx := by
    have e : lov ((List.replicate 64 0).map nB) 0 (S.map nB) = (kb S).map nB := by
     have := lov_app (a := []) (b := (List.replicate S.length 0).map nB) (c := (List.replicate (64 - S.length) 0).map nB) (vs := S.map nB) (o := 0) rfl (by simp)
     unfold kb
     rw [if_neg h]
     dsimp only
     rw [List.map_append]
     rw [← List.map_append, List.replicate_append_replicate, show S.length + (64 - S.length) = 64 by omega] at this
     exact this
    rw [← e]
    have e2 : (S.map nB).take (min S.length 64 * 1) = S.map nB := List.take_of_length_le (by rw [List.length_map]; omega)
    rw [e2] at r5
    exact r5
   refine run1 ?_
   exact meet.n s5 ⟨r5', k1.app k5 (Nat.le_refl _)⟩ (.cons rfl (.cons rfl .nil)) rfl
 ·rintro t0 ⟨m1, m2⟩
  obtain ⟨K, hK⟩ : ∃ K, K = kb S := ⟨_, rfl⟩
  have hKl : K.length = 64 := by rw [hK]; exact kb_length
  rw [← hK] at m1 ⊢
  have wt0 : Wf t0 := m2.wf w0
  have gd : good (some ⟨s.nx, 0, none⟩) := good_b
  refine run1 ?_
  refine W.loop (α := Nat × St) (fun a => [(1, nB x), (5, .slice (some ⟨s.nx, 0, none⟩) 64 (sure 64)), (7, nI a.1)]) (fun _ => []) (fun a => a.2)
   (fun a => a.1 ≤ 64 ∧ Rw a.2 s.nx ((mk x (K.take a.1) ++ K.drop a.1).map nB) s.nx ∧ Kp (fun c => c = s.nx) t0 a.2) (fun a => 64 - a.1) (0, t0) ⟨Nat.zero_le _, m1, .refl⟩ (.cons rfl (.cons rfl (.cons rfl .nil))) rfl rfl (by show 64 - 0 < _; decide) ?_
  rintro ⟨i, t1⟩ ⟨i1, i2, i3⟩
  simp only at i1 i2 i3
  dsimp only
  have wt : Wf t1 := i3.wf wt0
  by_cases hi : i < 64
  ·have hll : (mk x (K.take i) ++ K.drop i).length = 64 := by rw [List.length_append, mk_length, List.length_take, List.length_drop]; omega
   have hg : (mk x (K.take i) ++ K.drop i).getD i 0 = K.getD i 0 := by
    rw [List.getD_eq_getElem?_getD, List.getElem?_append_right (by rw [mk_length, List.length_take]; omega), mk_length, List.length_take, show min i K.length = i by omega, Nat.sub_self, List.getElem?_drop, Nat.add_zero, List.getD_eq_getElem?_getD]
   have hld : ldq t1 (qadd (some ⟨s.nx, 0, none⟩) (i * 1)) = some (nB (K.getD i 0)) := by
    have := Bs.ld (A := mk x (K.take i) ++ K.drop i) (i := i) i2.ats (by rw [hll]; exact hi)
    rw [hg] at this
    exact this
   refine run1 ?_
   refine Wo.st rfl rfl rfl rfl rfl rfl rfl (by intro v hv; rw [List.mem_singleton] at hv; rw [hv]; rfl) i2 (by rw [List.length_map, hll]; show 0 + i * 1 + 1 ≤ 64; omega) fun t2 q1 m1 g1 => ?_
   have q1' : Rw t2 s.nx ((mk x (K.take (i + 1)) ++ K.drop (i + 1)).map nB) s.nx := by
    have e : lov ((mk x (K.take i) ++ K.drop i).map nB) (0 + i * 1) [nB ((K.getD i 0 ^^^ x) % 256)] = (mk x (K.take (i + 1)) ++ K.drop (i + 1)).map nB := by
     have := lov_app (a := (mk x (K.take i)).map nB) (b := [nB (K.getD i 0)]) (c := (K.drop (i + 1)).map nB) (vs := [nB ((K.getD i 0 ^^^ x) % 256)]) (o := 0 + i * 1) (by rw [List.length_map, mk_length, List.length_take]; omega) rfl
     have e1 : K.drop i = K.getD i 0 :: K.drop (i + 1) := by rw [List.drop_eq_getElem_cons (by omega), List.getD_eq_getElem?_getD, List.getElem?_eq_getElem (by omega)]; rfl
     have e2 : mk x (K.take (i + 1)) = mk x (K.take i) ++ [(K.getD i 0 ^^^ x) % 256] := by
      unfold mk
      rw [List.take_succ_eq_append_getElem (by omega), List.map_append, List.getD_eq_getElem?_getD, List.getElem?_eq_getElem (by omega)]; rfl
     rw [e1, e2, List.map_append, List.map_cons, List.map_append, List.map_append]
     simp only [List.append_assoc]
     exact this
    rw [← e]; exact q1
   refine run1 ?_
   exact rnd.n (i + 1, t2) ⟨hi, q1', i3.trans g1⟩ (by show 64 - (i + 1) < 64 - i; omega) (.cons rfl (.cons rfl (.cons rfl .nil))) rfl rfl
  ·have e : i = 64 := by omega
   subst e
   rw [List.take_of_length_le (by omega), List.drop_of_length_le (by omega), List.append_nil] at i2
   refine run1 ?_
   exact Lv.ret rfl ⟨s.nx, rfl, Nat.le_refl _, i2, m2.app i3 (Nat.le_refl _)⟩
end Go.Proofs.YteldpcbhfbgomaaGreatDoor
namespace Go.Sy
open Go Go.Ev
theorem Wd.app {X : Fx} {env : Env} {df : List Deferred} {s : St} {Q : Post} {all : List Oper} {d : Option Nat} {ty : TypeId} {pos : String} {af : Array Edge} {g : Option (Nat × Bool)} {i m : Nat} {L : List Sp} {past : Past} {x y : Operand} {t u e n0 nu size : Nat} {z0 zu : Option (List Value)} {z : List Value} {t0 t1 tu : Nat} {ke ku : Sh} (hgd : wantsE all env g = some true) (ht : tk X.B.T t = some ⟨t0, n0, .sl e, z0⟩) (he : tk X.B.T e = some ⟨t1, size, ke, some z⟩) (hu : tk X.B.T u = some ⟨tu, nu, ku, zu⟩) (hn : notI ku = true) (h0 : Nat.blt 0 size = true) (hd : dOk X d = true)
  {q : Option Addr} {n c : Nat} {v : Value} {γ k : Nat} {cs new : List Value} (hx : ev env x = some (.slice q n c)) (hy : ev env y = some v) (w : Wf s) (hg : Gw s q n c size cs γ) (hk : lenOfV v = some k) (hv : cellsFrom s size k v = some new) (hl : new.length = k * size) (h1 : ∀ v ∈ new, one v = true) {y0 : Nat} (hV : lkV X.B.V e = some y0) (hr : (5 * (n + k) + 3072) * y0 ≤ 1125899906842624) (hb : n + k ≤ 4611686018427387904)
  (K : ∀ q' c' γ' s', Gw s' q' (n + k) c' size (cs ++ new) γ' → Kp (fun x => x = γ) s s' → (γ' = γ ∨ γ' = s.nx ∧ Kn s s') → Wd X all L ((some i, s') :: past) (up d (.slice q' (n + k) c') env) df s' Q) :
  Wd X all (.mk .acts i ⟨d, .call ⟨.builtin .append, #[x, y], #[t, u]⟩, ty, pos, af, g⟩ m :: L) past env df s Q := by
 obtain ⟨q', c', γ', s', a, b, c1, d1, _⟩ := Xv.app (X := X) (env := env) ht he hu hn h0 hx hy w hg hk hv hl h1 hV hr hb
 exact Wd.act hgd a hd c1.le (K q' c' γ' s' b c1 d1)
end Go.Sy
namespace Go.Proofs.YteldpcbhfbgomaaGreatDoor
open Go Go.Ev Go.Sy
set_option maxRecDepth 100000
variable {s : St} {n c d : Nat} {q r : Option Addr} {M A S D : List Nat}
theorem rcode3_ok (w0 : Wf s) (hT : TabAt s) (ha : Bs s q S) (hS : ∀ x ∈ S, x < 256) (hl : S.length < 2 ^ 40) (hm : Bs s r M) (hM : ∀ x ∈ M, x < 256) (hml : M.length < 2 ^ 39) :
  Cl B (.call 56 [.slice q S.length c, .slice r M.length d]) s fun v s' => v = hsh (hmc S M) ∧ Kn s s' := by
 refine Cl.enter Tryz.f56 fn56 rfl rfl rfl ?_
 have hil := inn_length (S := S)
 have hol := out_length (S := S)
 refine run1 ?_
 refine mk_gen (cs := (List.replicate 32 0).map nB) (M := fun s' => Wo _ _ _ _ _ s' _) fun s1 r1 n1 k1 => ?_
 have w1 : Wf s1 := k1.wf w0
 have tk : ∀ {s' : St}, Kn s s' → TabAt s' := fun k => hT.kpN w0 (k.mono fun _ h => absurd h id)
 refine Wo.call rfl (Xc.call ok77 rfl) rfl ((rblock_ok (x := 54) w1 (tk k1) (ha.kn w0 k1) hS hl).mono ?_)
 rintro v s2 ⟨b, rfl, hb, r2, k2⟩
 have w2 : Wf s2 := k2.wf w1
 have k02 : Kn s s2 := k1.call k2
 refine run1 ?_
 refine Wo.app rfl rfl rfl rfl rfl rfl rfl rfl rfl w2 (r2.gw (by rw [List.length_map, mk_length, kb_length])) rfl (hm.kn w0 k02).cells (by rw [List.length_map, Nat.mul_one]) one_nB rfl (by omega) (by omega) ?_
 intro q3 c3 γ3 s3 h1 h2 h3
 have k13 : Kn s1 s3 := k2.app h2 hb
 have w3 : Wf s3 := k13.wf w1
 have k03 : Kn s s3 := k1.call k13
 have e3 : 64 + M.length = (inn S ++ M).length := by rw [List.length_append, hil]
 rw [e3, ← List.map_append] at h1
 rw [e3]
 have h1' : Bs s3 q3 (inn S ++ M) := h1.sl.at
 have hib : ∀ x ∈ inn S ++ M, x < 256 := fun x hx => by
  rcases List.mem_append.1 hx with h | h
  ·exact mk_byte x h
  ·exact hM x h
 refine run1 ?_
 refine Wo.call rfl (Xc.call ok78 rfl) rfl ((rsum_ok w3 (tk k03) h1' hib (by rw [List.length_append]; omega)).mono ?_)
 rintro v s4 ⟨rfl, k4⟩
 have w4 : Wf s4 := k4.wf w3
 obtain ⟨D, hD⟩ : ∃ D, D = shaOf (inn S ++ M) := ⟨_, rfl⟩
 have hDl : D.length = 32 := by rw [hD]; exact shaOf_length
 have hDb : ∀ x ∈ D, x < 256 := by rw [hD]; exact sumN_byte
 rw [← hD]
 refine run1 ?_
 refine mk_gen (cs := (List.replicate 32 0).map nB) (M := fun s' => Wo _ _ _ _ _ s' _) fun s5 r5 n5 k5 => ?_
 have w5 : Wf s5 := k5.wf w4
 refine Wo.st rfl rfl rfl rfl rfl rfl (by rw [List.length_map, hDl]) one_nB r5 (by rw [List.length_map, List.length_replicate]; decide) fun s6 r6 n6 k6 => ?_
 rw [lov_all (by rw [List.length_map, List.length_map, hDl, List.length_replicate])] at r6
 have k46 : Kn s4 s6 := k5.app k6 (Nat.le_refl _)
 have k16 : Kn s1 s6 := k13.call (k4.call k46)
 have w6 : Wf s6 := k16.wf w1
 have k06 : Kn s s6 := k1.call k16
 refine run1 ?_
 refine W.dr [(0, .none, 0), (1, .acts, 1), (2, .none, 0), (3, .acts, 7), (4, .none, 15)] (by kernel_rfl) rfl (run1 ?_)
 refine Wd.call rfl (Xc.call ok77 rfl) rfl ((rblock_ok (x := 92) w6 (tk k06) (ha.kn w0 k06) hS hl).mono ?_)
 rintro v s7 ⟨b7, rfl, hb7, r7, k7⟩
 refine ⟨k7.le, ?_⟩
 have w7 : Wf s7 := k7.wf w6
 refine Wd.val rfl (Xv.slP (b := s4.nx) (o := 0) rfl rfl rfl (by decide)).1 rfl (Nat.le_refl _) ?_
 have r67 := r6.kp w6 k7 id
 refine Wd.app rfl rfl rfl rfl rfl rfl rfl rfl rfl w7 (r7.gw (by rw [List.length_map, mk_length, kb_length])) rfl (cells_at (k := 32) (size := 1) r67.ats (by rw [List.length_map, hDl]) (by decide)) (by rw [List.length_map, hDl]) one_nB rfl (by decide) (by decide) ?_
 intro q8 c8 γ8 s8 j1 j2 j3
 have k68 : Kn s6 s8 := k7.app j2 hb7
 have w8 : Wf s8 := k68.wf w6
 have e8 : 64 + 32 = (out S ++ D).length := by rw [List.length_append, hol, hDl]
 rw [e8, ← List.map_append] at j1
 rw [e8]
 have j1' : Bs s8 q8 (out S ++ D) := j1.sl.at
 have hob : ∀ x ∈ out S ++ D, x < 256 := fun x hx => by
  rcases List.mem_append.1 hx with h | h
  ·exact mk_byte x h
  ·exact hDb x h
 refine run1 ?_
 refine Wo.call rfl (Xc.call ok78 rfl) rfl ((rsum_ok w8 (tk (k06.call k68)) j1' hob (by rw [List.length_append]; omega)).mono ?_)
 rintro v s9 ⟨rfl, k9⟩
 have w9 : Wf s9 := k9.wf w8
 obtain ⟨F, hF⟩ : ∃ F, F = hmc S M := ⟨_, rfl⟩
 have hFl : F.length = 32 := by rw [hF]; exact hmc_length
 rw [show shaOf (out S ++ D) = F by rw [hF, hmc, hD], ← hF]
 refine run1 ?_
 have k19 : Kn s1 s9 := k16.call (k68.call k9)
 refine Wo.st rfl rfl rfl rfl rfl rfl (by rw [List.length_map, hFl]) one_nB (r1.kp w1 k19 id) (by rw [List.length_map, List.length_replicate]; decide) fun s10 r10 n10 k10 => ?_
 rw [lov_all (by rw [List.length_map, List.length_map, hFl, List.length_replicate])] at r10
 refine run1 ?_
 have hcl := cell_at (B := B) (t := 23) (n := 32) (k := .ar 32 5) rfl rfl r10 (by rw [List.length_map, hFl]) rfl
 refine Lv.ret (vs := [hsh F]) ?_ ⟨rfl, (k1.call k19).app k10 (Nat.le_refl _)⟩
 show (match cell1 B.P (.pointer (some ⟨s.nx, 0, none⟩)) 23 s10, some [] with | some v, some vs => some (v :: vs) | _, _ => none) = _
 rw [hcl]; rfl
def cb1 (l x : Nat) : Nat := if 8 ≤ l then x else if 0 < l then x - x % 2 ^ (8 - l) else 0
theorem cb1_tab : ((List.range 256).all fun x => (List.range 9).all fun l => Nat.beq (anB x (255 >>> l)) (cb1 l x)) = true := by kernel_rfl
theorem cb1_eq {l x : Nat} (hx : x < 256) : anB x (255 >>> (min l 8)) = cb1 l x := by
 have h := List.all_eq_true.1 (List.all_eq_true.1 cb1_tab x (List.mem_range.2 hx)) (min l 8) (List.mem_range.2 (by omega))
 rw [Nat.eq_of_beq_eq_true h]
 by_cases h8 : 8 ≤ l
 ·rw [show min l 8 = 8 by omega]; unfold cb1; rw [if_pos h8, if_pos (Nat.le_refl _)]
 ·rw [show min l 8 = l by omega]
theorem ctN_eq {H : List Nat} (hH : H.length = 32) (hb : ∀ x ∈ H, x < 256) : ∀ {i : Nat}, i ≤ 32 → ctN H n i = (List.range i).map (fun j => cb1 (n - 8 * j) (H.getD j 0)) ++ H.drop i
 | 0, _ => rfl
 | i + 1, h => by
  rw [ctN, ctN_eq hH hb (i := i) (by omega)]
  have e1 : H.drop i = H.getD i 0 :: H.drop (i + 1) := by rw [List.drop_eq_getElem_cons (by omega), List.getD_eq_getElem?_getD, List.getElem?_eq_getElem (by omega)]; rfl
  have hg : ((List.range i).map (fun j => cb1 (n - 8 * j) (H.getD j 0)) ++ H.drop i).getD i 0 = H.getD i 0 := by
   rw [List.getD_eq_getElem?_getD, List.getElem?_append_right (by simp), e1]; simp
  have hx : H.getD i 0 < 256 := by
   rw [List.getD_eq_getElem?_getD, List.getElem?_eq_getElem (by omega)]; exact hb _ (List.getElem_mem _)
  rw [hg, cb1_eq hx, List.set_append_right _ _ (by simp)]
  rw [e1]
  simp [List.range_succ]
theorem cutOf_eq {H : List Nat} (hH : H.length = 32) (hb : ∀ x ∈ H, x < 256) : cutOf H n = (List.range 32).map fun j => cb1 (n - 8 * j) (H.getD j 0) := by
 rw [cutOf, ctN_eq hH hb (Nat.le_refl _), List.drop_of_length_le (by omega), List.append_nil]
end Go.Proofs.YteldpcbhfbgomaaGreatDoor
