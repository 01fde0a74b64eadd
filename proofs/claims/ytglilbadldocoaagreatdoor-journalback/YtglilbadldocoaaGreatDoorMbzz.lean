import Derived.Test.YtglilbadldocoaaGreatDoorDczz
namespace Go.Proofs.YtglilbadldocoaaGreatDoor
open Go Go.Ev Go.Sy
set_option maxRecDepth 100000
variable {s : St} {p γ δ n c : Nat} {q : Option Addr} {S M A D O : List Nat} {E : List Value}
def kb (S : List Nat) : List Nat := let K := if 64 < S.length then shaOf S else S; K ++ List.replicate (64 - K.length) 0
theorem kb_length : (kb S).length = 64 := by
 unfold kb
 dsimp only
 split
 ·rw [List.length_append, shaOf_length, List.length_replicate]
 ·rw [List.length_append, List.length_replicate]; omega
def mk (m : Nat) (D : List Nat) : List Nat := D.map fun x => (x ^^^ m) % 256
theorem mk_length {m : Nat} : (mk m D).length = D.length := by simp [mk]
theorem mk_byte {m : Nat} : ∀ x ∈ mk m D, x < 256 := fun x hx => by
 obtain ⟨y, _, rfl⟩ := List.mem_map.1 hx
 exact Nat.mod_lt _ (by decide)
theorem blockOf_ok (w0 : Wf s) (hT : TabAt s) (hq : At s q (S.map nB)) (hc : Cap S.length c 1) (hS : ∀ x ∈ S, x < 256) (hl : S.length < 2 ^ 59) :
  Cl B (.call 116 [.slice q S.length c]) s fun v s' => v = .agg ⟨(kb S).map nB⟩ ∧ Kn s s' := by
 refine Cl.enter Tryz.f116 fn116 rfl rfl rfl ?_
 refine run1 ?_
 obtain ⟨z, hz⟩ : ∃ z : List Value, z = (List.replicate 64 0).map nB := ⟨_, rfl⟩
 have hzl : z.length = 64 := by rw [hz]; rfl
 obtain ⟨s2, b, f1, f2, hb, za, zb, n2, k2⟩ := two_mk (cs := z) (ds := z) w0
 rw [show mkRow (mkRow s _) _ = s2 from (by rw [← f1, hz]; rfl), show (mkRow s _).nx = b from (by rw [← f2, hz]; rfl)]
 have w2 : Wf s2 := k2.wf w0
 have q2 : At s2 q (S.map nB) := hq.kn w0 k2
 refine W.cond rfl (fun h => ?_) (fun h => ?_)
 ·refine run1 ?_
  refine mkO (cs := [.slice q S.length c]) fun s3 r3 n3 k3 => ?_
  have w3 : Wf s3 := k3.wf w2
  refine Wo.call rfl (Xc.call ok121 rfl) rfl ((sum_ok (P := [(.slice q S.length c, S)]) w3 (hT.kpN w0 ((k2.call k3).w)) r3.ats (fun x hx => by rw [List.mem_singleton.1 hx]; exact ⟨q, c, rfl, q2.kn w2 k3, hc, hS⟩) (by simpa using hl) (by show 1 < _; decide)).mono ?_)
  rintro v s4 ⟨rfl, k4⟩
  obtain ⟨D, hD⟩ : ∃ D, D = shaOf S := ⟨_, rfl⟩
  have hDl : D.length = 32 := by rw [hD]; exact shaOf_length
  rw [show shaOf (List.flatMap Prod.snd [(Value.slice q S.length c, S)]) = D by rw [hD]; simp]
  have w4 : Wf s4 := k4.wf w3
  refine run1 ?_
  refine mkO (cs := (List.replicate 32 0).map nB) fun s5 r5 n5 k5 => ?_
  have w5 : Wf s5 := k5.wf w4
  refine Wo.st rfl rfl rfl rfl rfl rfl (by rw [List.length_map, hDl]) one_nB r5 (by rw [List.length_map, List.length_replicate]; decide) fun s6 r6 n6 k6 => ?_
  rw [lov_all (by rw [List.length_map, List.length_map, hDl, List.length_replicate])] at r6
  have k26 : Kn s2 s6 := k3.call (k4.call (k5.app k6 (Nat.le_refl _)))
  have w6 : Wf s6 := k26.wf w2
  refine run1 ?_
  refine W.dr [(0, .none, 0), (1, .none, 0), (2, .acts, 3)] (by kernel_rfl) rfl ?_
  refine Wd.val rfl (Xv.slP (b := b) (o := 0) rfl rfl rfl (by decide)).1 rfl (Nat.le_refl _) ?_
  refine Wd.val rfl (Xv.slP (b := s4.nx) (o := 0) rfl rfl rfl (by decide)).1 rfl (Nat.le_refl _) ?_
  refine Wd.cpy rfl rfl rfl rfl rfl rfl rfl (zb.kp w2 k26 id) r6.ats (by rw [List.length_map, hDl]) one_nB (by rw [hzl]; decide) fun s7 r7 n7 k7 => ?_
  have r7' : Rw s7 b ((kb S).map nB) b := by
   have e : lov z 0 (D.map nB) = (kb S).map nB := by
    have := lov_app (a := []) (b := (List.replicate 32 0).map nB) (c := (List.replicate 32 0).map nB) (vs := D.map nB) (o := 0) rfl (by rw [List.length_map, hDl]; rfl)
    unfold kb
    rw [if_pos h, ← hD]
    dsimp only
    rw [hDl, List.map_append, hz]
    exact this
   rw [← e]
   have e2 : (D.map nB).take (min 32 64 * 1) = D.map nB := List.take_of_length_le (by rw [List.length_map, hDl]; decide)
   rw [e2] at r7
   exact r7
  have k07 : Kn s s7 := (k2.call k26).app k7 (by omega)
  have za7 : Rw s7 s.nx z s.nx := (za.kp w2 k26 id).kp w6 k7 (by omega)
  have hld := r7'.all (n := 64) (by rw [List.length_map, kb_length]) (by decide)
  refine run1 ?_
  refine Wo.st rfl rfl rfl rfl rfl rfl (by rw [List.length_map, kb_length]) one_nB za7 (by rw [hzl]; decide) fun s8 r8 n8 k8 => ?_
  rw [lov_all (by rw [List.length_map, kb_length, hzl])] at r8
  refine run1 ?_
  have hcl := cell_at (B := B) (t := 182) (n := 64) (k := .ar 64 5) rfl rfl r8 (by rw [List.length_map, kb_length]) rfl
  refine Lv.ret (vs := [.agg ⟨(kb S).map nB⟩]) ?_ ⟨rfl, k07.app k8 (Nat.le_refl _)⟩
  show (match cell1 B.P (.pointer (some ⟨s.nx, 0, none⟩)) 182 s8, some [] with | some v, some vs => some (v :: vs) | _, _ => none) = _
  rw [hcl]
 ·refine run1 ?_
  refine Wo.val rfl (Xv.slP (b := b) (o := 0) rfl rfl rfl (by decide)).1 rfl (run1 ?_)
  refine Wo.cpy rfl rfl rfl rfl rfl rfl rfl zb q2 (by rw [List.length_map, Nat.mul_one]) one_nB (by rw [hzl]; decide) fun s7 r7 n7 k7 => ?_
  have r7' : Rw s7 b ((kb S).map nB) b := by
   have e : lov z 0 (S.map nB) = (kb S).map nB := by
    have := lov_app (a := []) (b := (List.replicate S.length 0).map nB) (c := (List.replicate (64 - S.length) 0).map nB) (vs := S.map nB) (o := 0) rfl (by simp)
    unfold kb
    rw [if_neg h]
    dsimp only
    rw [List.map_append, hz]
    rw [← List.map_append, List.replicate_append_replicate, show S.length + (64 - S.length) = 64 by omega] at this
    exact this
   rw [← e]
   have e2 : (S.map nB).take (min S.length 64 * 1) = S.map nB := List.take_of_length_le (by rw [List.length_map]; omega)
   rw [e2] at r7
   exact r7
  have k07 : Kn s s7 := k2.app k7 (by omega)
  have za7 : Rw s7 s.nx z s.nx := za.kp w2 k7 (by omega)
  have hld := r7'.all (n := 64) (by rw [List.length_map, kb_length]) (by decide)
  refine run1 ?_
  refine Wo.st rfl rfl rfl rfl rfl rfl (by rw [List.length_map, kb_length]) one_nB za7 (by rw [hzl]; decide) fun s8 r8 n8 k8 => ?_
  rw [lov_all (by rw [List.length_map, kb_length, hzl])] at r8
  refine run1 ?_
  have hcl := cell_at (B := B) (t := 182) (n := 64) (k := .ar 64 5) rfl rfl r8 (by rw [List.length_map, kb_length]) rfl
  refine Lv.ret (vs := [.agg ⟨(kb S).map nB⟩]) ?_ ⟨rfl, k07.app k8 (Nat.le_refl _)⟩
  show (match cell1 B.P (.pointer (some ⟨s.nx, 0, none⟩)) 182 s8, some [] with | some v, some vs => some (v :: vs) | _, _ => none) = _
  rw [hcl]
theorem masked_ok {m : Nat} (w0 : Wf s) (hD : D.length = 64) :
  Cl B (.call 117 [.agg ⟨D.map nB⟩, nB m]) s fun v s' => v = .agg ⟨(mk m D).map nB⟩ ∧ Kn s s' := by
 refine Cl.enter Tryz.f117 fn117 rfl rfl rfl ?_
 refine run1 ?_
 obtain ⟨z, hz⟩ : ∃ z : List Value, z = (List.replicate 64 0).map nB := ⟨_, rfl⟩
 have hzl : z.length = 64 := by rw [hz]; rfl
 obtain ⟨s2, b, f1, f2, hb, za, zb, n2, k2⟩ := two_mk (cs := D.map nB) (ds := z) w0
 rw [show mkRow (mkRow s _) _ = s2 from (by rw [← f1, hz]; rfl), show (mkRow s _).nx = b from f2]
 have w2 : Wf s2 := k2.wf w0
 refine W.loop (α := Nat × St) (fun a => [(1, nB m), (2, .pointer (some ⟨s.nx, 0, none⟩)), (4, .pointer (some ⟨b, 0, none⟩)), (6, nI a.1)]) (fun _ => []) (fun a => a.2)
  (fun a => a.1 ≤ 64 ∧ Rw a.2 s.nx ((mk m (D.take a.1) ++ D.drop a.1).map nB) s.nx ∧ Kp (fun c => c = s.nx) s2 a.2) (fun a => 64 - a.1) (0, s2) ⟨Nat.zero_le _, za, .refl⟩ (.cons rfl (.cons rfl (.cons rfl (.cons rfl .nil)))) rfl rfl (by show 64 - 0 < _; omega) ?_
 rintro ⟨i, t0⟩ ⟨i1, i2, i3⟩
 simp only at i1 i2 i3
 dsimp only
 have wt : Wf t0 := i3.wf w2
 by_cases hi : i < 64
 ·have hll : (mk m (D.take i) ++ D.drop i).length = 64 := by rw [List.length_append, mk_length, List.length_take, List.length_drop]; omega
  have hg : (mk m (D.take i) ++ D.drop i).getD i 0 = D.getD i 0 := by
   rw [List.getD_eq_getElem?_getD, List.getElem?_append_right (by rw [mk_length, List.length_take]; omega), mk_length, List.length_take, show min i D.length = i by omega, Nat.sub_self, List.getElem?_drop, Nat.add_zero, List.getD_eq_getElem?_getD]
  have hld : ldq t0 (some ⟨s.nx, 0 + i * 1, none⟩) = some (nB (D.getD i 0)) := by
   have := Bs.ld (A := mk m (D.take i) ++ D.drop i) (i := i) i2.ats (by rw [hll]; exact hi)
   rw [hg] at this
   exact this
  refine run1 ?_
  refine Wo.val rfl (Xv.iaP rfl rfl rfl rfl hi) rfl (run1 ?_)
  refine Wo.val rfl (Xv.iaP rfl rfl rfl rfl hi) rfl (run1 ?_)
  refine Wo.st rfl rfl rfl rfl rfl rfl rfl (by intro v hv; rw [List.mem_singleton] at hv; rw [hv]; rfl) i2 (by rw [List.length_map, hll]; show 0 + i * 1 + 1 ≤ 64; omega) fun t1 q1 m1 g1 => ?_
  have q1' : Rw t1 s.nx ((mk m (D.take (i + 1)) ++ D.drop (i + 1)).map nB) s.nx := by
   have e : lov ((mk m (D.take i) ++ D.drop i).map nB) (0 + i * 1) [nB ((D.getD i 0 ^^^ m) % 256)] = (mk m (D.take (i + 1)) ++ D.drop (i + 1)).map nB := by
    have := lov_app (a := (mk m (D.take i)).map nB) (b := [nB (D.getD i 0)]) (c := (D.drop (i + 1)).map nB) (vs := [nB ((D.getD i 0 ^^^ m) % 256)]) (o := 0 + i * 1) (by rw [List.length_map, mk_length, List.length_take]; omega) rfl
    have e1 : D.drop i = D.getD i 0 :: D.drop (i + 1) := by rw [List.drop_eq_getElem_cons (by omega), List.getD_eq_getElem?_getD, List.getElem?_eq_getElem (by omega)]; rfl
    have e2 : mk m (D.take (i + 1)) = mk m (D.take i) ++ [(D.getD i 0 ^^^ m) % 256] := by
     unfold mk
     rw [List.take_succ_eq_append_getElem (by omega), List.map_append, List.getD_eq_getElem?_getD, List.getElem?_eq_getElem (by omega)]; rfl
    rw [e1, e2, List.map_append, List.map_cons, List.map_append, List.map_append]
    simp only [List.append_assoc]
    exact this
   rw [← e]; exact q1
  refine run1 ?_
  exact rnd.n (i + 1, t1) ⟨hi, q1', i3.trans g1⟩ (by show 64 - (i + 1) < 64 - i; omega) (.cons rfl (.cons rfl (.cons rfl (.cons rfl .nil)))) rfl rfl
 ·have e : i = 64 := by omega
  subst e
  have i2' : Rw t0 s.nx ((mk m D).map nB) s.nx := by
   rw [List.take_of_length_le (by omega), List.drop_of_length_le (by omega), List.append_nil] at i2
   exact i2
  have hml : (mk m D).length = 64 := by rw [mk_length, hD]
  have hld := i2'.all (n := 64) (by rw [List.length_map, hml]) (by decide)
  refine run1 ?_
  refine Wo.st rfl rfl rfl rfl rfl rfl (by rw [List.length_map, hml]) one_nB (zb.kp w2 i3 (by omega)) (by rw [hzl]; decide) fun s8 r8 n8 k8 => ?_
  rw [lov_all (by rw [List.length_map, hml, hzl])] at r8
  refine run1 ?_
  have hcl := cell_at (B := B) (t := 182) (n := 64) (k := .ar 64 5) rfl rfl r8 (by rw [List.length_map, hml]) rfl
  refine Lv.ret (vs := [.agg ⟨(mk m D).map nB⟩]) ?_ ⟨rfl, (k2.app i3 (Nat.le_refl _)).app k8 (by omega)⟩
  show (match cell1 B.P (.pointer (some ⟨b, 0, none⟩)) 182 s8, some [] with | some v, some vs => some (v :: vs) | _, _ => none) = _
  rw [hcl]
open Go Go.Ev Go.Sy
set_option maxRecDepth 100000
variable {s : St} {p γ δ n c : Nat} {q : Option Addr} {S M A D O R : List Nat} {E : List Value} {w : W8}
theorem one_sc : ∀ v ∈ sc [] w R n, one v = true := fun v hv => by
 unfold sc wv at hv
 rcases List.mem_append.1 hv with hv | hv
 ·simp only [List.mem_cons, List.not_mem_nil, or_false] at hv; rcases hv with rfl | rfl | rfl | rfl | rfl | rfl | rfl | rfl <;> rfl
 ·rcases List.mem_append.1 hv with hv | hv
  ·obtain ⟨x, _, rfl⟩ := List.mem_map.1 hv; rfl
  ·rw [List.mem_singleton] at hv; rw [hv]; rfl
theorem eqV_sc : eqV 5 (.agg ⟨sc [] w R n⟩) (.agg ⟨sc [] w R n⟩) = true := eqV_agg fun v hv => by
 unfold sc wv at hv
 rcases List.mem_append.1 hv with hv | hv
 ·simp only [List.mem_cons, List.not_mem_nil, or_false] at hv; rcases hv with rfl | rfl | rfl | rfl | rfl | rfl | rfl | rfl <;> exact eqV4i
 ·rcases List.mem_append.1 hv with hv | hv
  ·exact eqV_b _ hv
  ·rw [List.mem_singleton] at hv; rw [hv]; exact eqV4i
theorem sc_tail {F : List Value} : sc E w R n ++ F = sc (E ++ F) w R n := by simp [sc]
theorem kfill {C : List Value} (hR : R.length = 64) (hO : O.length = 64) (hC : C.length = 137) : (lov C 0 (sc [] w R n)).length = 137 ∧ lov (lov C 0 (sc [] w R n)) 73 (O.map nB) = sc (O.map nB) w R n := by
 have hs : (sc [] w R n).length = 73 := by rw [sc_length, hR]; rfl
 have e := lov_app (a := []) (b := C.take 73) (c := C.drop 73) (vs := sc [] w R n) (o := 0) rfl (by rw [hs, List.length_take]; omega)
 rw [List.nil_append, List.take_append_drop, List.nil_append] at e
 rw [e]
 refine ⟨by rw [List.length_append, hs, List.length_drop]; omega, ?_⟩
 have e2 := lov_app (a := sc [] w R n) (b := C.drop 73) (c := []) (vs := O.map nB) (o := 73) hs.symm (by rw [List.length_map, List.length_drop]; omega)
 rw [List.append_nil, List.append_nil] at e2
 rw [e2, sc_tail, List.nil_append]
def inn (S : List Nat) : List Nat := mk 54 (kb S)
def out (S : List Nat) : List Nat := mk 92 (kb S)
theorem inn_length : (inn S).length = 64 := by unfold inn; rw [mk_length, kb_length]
theorem out_length : (out S).length = 64 := by unfold out; rw [mk_length, kb_length]
def hmc (S M : List Nat) : List Nat := shaOf (out S ++ shaOf (inn S ++ M))
theorem hmc_length : (hmc S M).length = 32 := shaOf_length
set_option maxHeartbeats 1000000 in
theorem mnew_ok (w0 : Wf s) (hT : TabAt s) (hq : At s q (S.map nB)) (hc : Cap S.length c 1) (hS : ∀ x ∈ S, x < 256) (hl : S.length < 2 ^ 59) :
  Cl B (.call 92 [.slice q S.length c]) s fun v s' => ∃ b, v = .pointer (some ⟨b, 0, none⟩) ∧ s.nx ≤ b ∧ Msg s' b b ((out S).map nB) (inn S) ∧ Kn s s' := by
 refine Cl.enter Tryz.f92 fn92 rfl rfl rfl ?_
 refine run1 ?_
 refine Wo.call rfl (Xc.call ok116 rfl) rfl ((blockOf_ok w0 hT hq hc hS hl).mono ?_)
 rintro v s1 ⟨rfl, k1⟩
 have w1 : Wf s1 := k1.wf w0
 obtain ⟨K, hK⟩ : ∃ K, K = kb S := ⟨_, rfl⟩
 have hKl : K.length = 64 := by rw [hK]; exact kb_length
 rw [← hK]
 refine run1 ?_
 refine mkO (cs := (List.replicate 64 0).map nB) fun s2 r2 n2 k2 => ?_
 have w2 : Wf s2 := k2.wf w1
 refine Wo.st rfl rfl rfl rfl rfl rfl (by rw [List.length_map, hKl]) one_nB r2 (by rw [List.length_map, List.length_replicate]; decide) fun s3 r3 n3 k3 => ?_
 rw [lov_all (by rw [List.length_map, List.length_map, hKl, List.length_replicate])] at r3
 have k13 : Kn s1 s3 := k2.app k3 (Nat.le_refl _)
 have w3 : Wf s3 := k13.wf w1
 have hld3 := r3.all (n := 64) (by rw [List.length_map, hKl]) (by decide)
 refine run1 ?_
 refine Wo.call rfl (Xc.call ok117 rfl) rfl ((masked_ok w3 hKl).mono ?_)
 rintro v s4 ⟨rfl, k4⟩
 have w4 : Wf s4 := k4.wf w3
 have hI : (mk 54 K).length = 64 := by rw [mk_length, hKl]
 refine run1 ?_
 refine mkO (cs := (List.replicate 64 0).map nB) fun s5 r5 n5 k5 => ?_
 have w5 : Wf s5 := k5.wf w4
 refine Wo.st rfl rfl rfl rfl rfl rfl (by rw [List.length_map, hI]) one_nB r5 (by rw [List.length_map, List.length_replicate]; decide) fun s6 r6 n6 k6 => ?_
 rw [lov_all (by rw [List.length_map, List.length_map, hI, List.length_replicate])] at r6
 have k46 : Kn s4 s6 := k5.app k6 (Nat.le_refl _)
 have k36 : Kn s3 s6 := k4.call k46
 have w6 : Wf s6 := k36.wf w3
 have k06 : Kn s s6 := k1.call (k13.call k36)
 have r36 : Rw s6 s1.nx (K.map nB) s1.nx := r3.kp w3 k36 id
 have l6 := r36.all (n := 64) (by rw [List.length_map, hKl]) (by decide)
 refine run1 ?_
 refine W.dr [(0, .acts, 0), (3, .reads, 0), (4, .acts, 9), (1, .none, 1), (2, .reads, 3), (5, .none, 31), (6, .makes, 63), (7, .none, 127)] (by kernel_rfl) rfl ?_
 refine Wd.call rfl (Xc.call ok118 rfl) rfl ((new_ok (hT.kpN w0 (k06.w))).mono ?_)
 rintro v s7 ⟨rfl, ⟨R, m7, m7'⟩, n7, k7⟩
 refine ⟨k7.le, ?_⟩
 have w7 : Wf s7 := k7.wf w6
 have l7 := (r36.kp w6 k7 id).all (n := 64) (by rw [List.length_map, hKl]) (by decide)
 refine Wd.read rfl (Xv.ldN rfl rfl rfl l7) rfl eqV_h ⟨Xv.ldN rfl rfl rfl l7, ⟨Xv.ldN rfl rfl rfl l6, trivial⟩⟩ ?_
 refine Wd.call rfl (Xc.call ok117 rfl) rfl ((masked_ok w7 hKl).mono ?_)
 rintro v s8 ⟨rfl, k8⟩
 refine ⟨k8.le, ?_⟩
 have w8 : Wf s8 := k8.wf w7
 have hO : (mk 92 K).length = 64 := by rw [mk_length, hKl]
 refine Wd.val rfl (Xv.nilC rfl) rfl (Nat.le_refl _) ?_
 have a7 := m7.rw.all (n := 73) (by rw [sc_length, m7.len]; rfl) (by decide)
 have a8 := (m7.rw.kp w7 k8 id).all (n := 73) (by rw [sc_length, m7.len]; rfl) (by decide)
 refine Wd.read rfl (Xv.ldN rfl rfl rfl a8) rfl eqV_sc ⟨Xv.ldN rfl rfl rfl a8, ⟨Xv.ldN rfl rfl rfl a7, trivial⟩⟩ ?_
 obtain ⟨ow, how⟩ : ∃ ow, ow = mw [] := ⟨_, rfl⟩
 rw [← how] at m7 ⊢
 refine Wd.val rfl (Xv.buildE (cs := sc ((mk 92 K).map nB) ow R ([] : List Nat).length) rfl ?_) rfl (Nat.le_refl _) ?_
 ·refine fill_cons rfl rfl rfl (by rw [sc_length, m7.len]; rfl) one_sc (by decide) (fill_cons rfl rfl rfl (by rw [List.length_map, hO]) one_nB ?_ ?_)
  ·exact Nat.le_of_eq (kfill (O := mk 92 K) m7.len hO rfl).1.symm
  ·exact congrArg some (kfill m7.len hO rfl).2
 ·refine run1 ?_
  refine mk_gen (M := fun s' => W _ _ _ _ s' _) fun s9 r9 n9 k9 => ?_
  have w9 : Wf s9 := k9.wf w8
  have gd : good (some ⟨s8.nx, 0, none⟩) := good_b
  have k69 : Kn s6 s9 := k7.call (k8.call k9)
  have r69 : Rw s9 s4.nx ((mk 54 K).map nB) s4.nx := r6.kp w6 k69 id
  have m9 : Msg s9 s8.nx s8.nx ((mk 92 K).map nB) [] := by
   rw [how] at r9 m7
   exact ⟨R, ⟨r9, m7.ok, m7.len, m7.by'⟩, m7'⟩
  refine W.dr [(0, .none, 0), (1, .none, 1), (2, .none, 3), (3, .none, 0), (4, .acts, 15)] (by kernel_rfl) rfl (run1 ?_)
  refine Wd.val rfl (Xv.nilC rfl) rfl (Nat.le_refl _) (run1 ?_)
  refine Wd.val rfl (Xv.slP (b := s4.nx) (o := 0) rfl rfl rfl (by decide)).1 rfl (Nat.le_refl _) ?_
  have k09 : Kn s s9 := k06.call k69
  have h1 := k1.le
  have h2 := k13.le
  have h3 := k4.le
  have h4 := k46.le
  have h5 := k7.le
  have h6 := k8.le
  have hsl : Sl s9 (some ⟨s4.nx, 0, none⟩) ((mk 54 K).map nB) s4.nx := by
   have := r69.sl (o := 0) (n := ((mk 54 K).map nB).length) (by omega)
   rwa [List.drop_zero, List.take_length] at this
  have wr := msg_write (c := sure 64) (A := mk 54 K) w9 (fun s' k => hT.kpN w0 ((k09.w).trans (k.mono fun c h => by subst h; omega))) m9 hsl (by omega) (Cap.sure (by omega)) mk_byte (by decide) (by omega)
  rw [hI] at wr
  refine Wd.call rfl (Xc.call ok119 rfl) rfl (wr.mono ?_)
  rintro v s10 ⟨m10, n10, k10⟩
  refine ⟨k10.le, run1 ?_⟩
  refine Lv.ret rfl ⟨s8.nx, rfl, by omega, ?_, k09.app k10 (by omega)⟩
  unfold out inn
  rw [← hK]
  exact m10
theorem mwrite_ok (w0 : Wf s) (hT : ∀ s', Kp (fun c => c = γ) s s' → TabAt s') (h : Msg s p γ E M) (hd : Sl s q (A.map nB) δ) (hne : δ ≠ γ) (hc : Cap A.length c 1) (hA : ∀ x ∈ A, x < 256) (hn : M.length < 2 ^ 60) (hl : A.length < 2 ^ 60) :
  Cl B (.call 93 [.pointer (some ⟨p, 0, none⟩), .slice q A.length c]) s fun _ s' => Msg s' p γ E (M ++ A) ∧ s'.nx = s.nx ∧ Kp (fun c => c = γ) s s' := by
 refine Cl.enter Tryz.f93 fn93 rfl rfl rfl ?_
 have gd : good (some ⟨p, 0, none⟩) := good_b
 refine run1 ?_
 refine Wo.val rfl (Xv.pEq rfl rfl rfl) rfl (run1 ?_)
 refine Wo.val rfl (Xv.nilC rfl) rfl (run1 ?_)
 refine Wo.call rfl (Xc.call ok119 rfl) rfl ((msg_write w0 hT h hd hne hc hA hn hl).mono ?_)
 rintro v s1 ⟨m1, n1, k1⟩
 refine run1 ?_
 exact Lv.nrm rfl ⟨m1, n1, k1⟩
theorem Msg.out (h : Msg s p γ (O.map nB) M) (hO : O.length = 64) : At s (some ⟨p, 73, none⟩) (O.map nB) := by
 obtain ⟨R, h1, _⟩ := h
 have hr := h1.len
 have := (h1.rw.sl (o := 73) (n := 64) (by rw [sc_length, List.length_map]; omega)).at
 have e : ((sc (O.map nB) (mw M) R M.length).drop 73).take 64 = O.map nB := by
  have e1 : sc (O.map nB) (mw M) R M.length = sc [] (mw M) R M.length ++ O.map nB := by rw [sc_tail, List.nil_append]
  have e2 : (sc [] (mw M) R M.length).length = 73 := by rw [sc_length, hr]; rfl
  rw [e1, List.drop_left' e2, List.take_of_length_le (by rw [List.length_map]; omega)]
 rwa [e] at this
theorem Msg.kn {s' : St} (h : Msg s p γ E M) (w0 : Wf s) (k : Kn s s') : Msg s' p γ E M := by
 obtain ⟨R, h1, h2⟩ := h
 exact ⟨R, ⟨h1.rw.kp w0 k id, h1.ok, h1.len, h1.by'⟩, h2⟩
theorem kcode_ok (w0 : Wf s) (hT : TabAt s) (h : Msg s p γ (O.map nB) M) (hO : O.length = 64) (hb : ∀ x ∈ O, x < 256) (hn : M.length < 2 ^ 59) :
  Cl B (.call 94 [.pointer (some ⟨p, 0, none⟩)]) s fun v s' => v = hsh (shaOf (O ++ shaOf M)) ∧ Kn s s' := by
 refine Cl.enter Tryz.f94 fn94 rfl rfl rfl ?_
 have gd : good (some ⟨p, 0, none⟩) := good_b
 refine run1 ?_
 refine mkO (cs := (List.replicate 32 0).map nB) fun s1 r1 n1 k1 => ?_
 have w1 : Wf s1 := k1.wf w0
 refine Wo.val rfl (Xv.pEq rfl rfl rfl) rfl (run1 ?_)
 refine Wo.val rfl (Xv.nilC rfl) rfl (run1 ?_)
 refine Wo.call rfl (Xc.call ok120 rfl) rfl ((msg_sum w1 (hT.kpN w0 (k1.w)) (h.kn w0 k1) hn).mono ?_)
 rintro v s2 ⟨rfl, k2⟩
 have w2 : Wf s2 := k2.wf w1
 obtain ⟨D, hD⟩ : ∃ D, D = shaOf M := ⟨_, rfl⟩
 have hDl : D.length = 32 := by rw [hD]; exact shaOf_length
 rw [← hD]
 refine run1 ?_
 refine mkO (cs := (List.replicate 32 0).map nB) fun s3 r3 n3 k3 => ?_
 have w3 : Wf s3 := k3.wf w2
 refine Wo.st rfl rfl rfl rfl rfl rfl (by rw [List.length_map, hDl]) one_nB r3 (by rw [List.length_map, List.length_replicate]; decide) fun s4 r4 n4 k4 => ?_
 rw [lov_all (by rw [List.length_map, List.length_map, hDl, List.length_replicate])] at r4
 have k24 : Kn s2 s4 := k3.app k4 (Nat.le_refl _)
 have w4 : Wf s4 := k24.wf w2
 have k04 : Kn s s4 := k1.call (k2.call k24)
 refine run1 ?_
 refine W.dr [(0, .none, 0), (1, .none, 1), (2, .none, 3), (3, .none, 7), (4, .none, 0), (5, .makes, 31), (6, .acts, 63), (7, .acts, 127)] (by kernel_rfl) rfl (run1 ?_)
 refine Wd.val rfl (Xv.nilC rfl) rfl (Nat.le_refl _) (run1 ?_)
 refine Wd.val rfl (Xv.slP (b := p) (o := 73) rfl rfl rfl (by decide)).1 rfl (Nat.le_refl _) ?_
 refine Wd.val rfl (Xv.slP (b := s2.nx) (o := 0) rfl rfl rfl (by decide)).1 rfl (Nat.le_refl _) (run1 ?_)
 refine mk_gen (M := fun s' => Wd _ _ _ _ _ _ s' _) fun s5 r5 n5 k5 => ?_
 have w5 : Wf s5 := k5.wf w4
 have k05 : Kn s s5 := k04.call k5
 have aO : At s5 (some ⟨p, 73, none⟩) (O.map nB) := (h.out hO).kn w0 k05
 have aD : At s5 (some ⟨s2.nx, 0, none⟩) (D.map nB) := (r4.kp w4 k5 id).ats
 have hDb : ∀ x ∈ D, x < 256 := by rw [hD]; exact sumN_byte
 have hfl : List.flatMap Prod.snd [((Value.slice (some ⟨p, 73, none⟩) 64 (sure 64)), O), ((Value.slice (some ⟨s2.nx, 0, none⟩) 32 (sure 32)), D)] = O ++ D := by simp
 have sm := sum_ok (s := s5) (c := sure 2) (P := [((Value.slice (some ⟨p, 73, none⟩) 64 (sure 64)), O), ((Value.slice (some ⟨s2.nx, 0, none⟩) 32 (sure 32)), D)]) w5 (hT.kpN w0 (k05.w)) r5.ats (fun x hx => by
  rcases List.mem_cons.1 hx with rfl | hx
  ·exact ⟨some ⟨p, 73, none⟩, sure 64, by rw [hO], aO, Cap.sure (by show O.length ≤ 64; omega), hb⟩
  ·rw [List.mem_singleton.1 hx]
   exact ⟨some ⟨s2.nx, 0, none⟩, sure 32, by rw [hDl], aD, Cap.sure (by show D.length ≤ 32; omega), hDb⟩) (by rw [hfl, List.length_append]; omega) (by show 2 < _; decide)
 rw [hfl] at sm
 refine Wd.call rfl (Xc.call ok121 rfl) rfl (sm.mono ?_)
 rintro v s6 ⟨rfl, k6⟩
 refine ⟨k6.le, ?_⟩
 have w6 : Wf s6 := k6.wf w5
 obtain ⟨F, hF⟩ : ∃ F, F = shaOf (O ++ D) := ⟨_, rfl⟩
 have hFl : F.length = 32 := by rw [hF]; exact shaOf_length
 rw [← hF]
 have k16 : Kn s1 s6 := k2.call (k24.call (k5.call k6))
 refine Wd.st rfl rfl rfl rfl rfl rfl (by rw [List.length_map, hFl]) one_nB (r1.kp w1 k16 id) (by rw [List.length_map, List.length_replicate]; decide) fun s7 r7 n7 k7 => ?_
 rw [lov_all (by rw [List.length_map, List.length_map, hFl, List.length_replicate])] at r7
 refine run1 ?_
 have hcl := cell_at (B := B) (t := 32) (n := 32) (k := .ar 32 5) rfl rfl r7 (by rw [List.length_map, hFl]) rfl
 refine Lv.ret (vs := [hsh F]) ?_ ⟨rfl, (k1.call k16).app k7 (Nat.le_refl _)⟩
 show (match cell1 B.P (.pointer (some ⟨s.nx, 0, none⟩)) 32 s7, some [] with | some v, some vs => some (v :: vs) | _, _ => none) = _
 rw [hcl]; rfl
theorem mcode_ok {d : Nat} (w0 : Wf s) (hT : TabAt s) (hq : At s q (S.map nB)) (hc : Cap S.length c 1) (hS : ∀ x ∈ S, x < 256) (hl : S.length < 2 ^ 59) {P : List (Value × List Nat)} {r : Option Addr} (hr : At s r (P.map Prod.fst)) (hP : ∀ x ∈ P, Part s x) (hn : (P.flatMap Prod.snd).length < 2 ^ 58) (hPl : P.length < 2 ^ 60) :
  Cl B (.call 59 [.slice q S.length c, .slice r P.length d]) s fun v s' => v = hsh (hmc S (P.flatMap Prod.snd)) ∧ Kn s s' := by
 refine Cl.enter Tryz.f59 fn59 rfl rfl rfl ?_
 refine run1 ?_
 refine mkO (cs := (List.replicate 32 0).map nB) fun s1 r1 n1 k1 => ?_
 have w1 : Wf s1 := k1.wf w0
 refine Wo.call rfl (Xc.call ok92 rfl) rfl ((mnew_ok w1 (hT.kpN w0 (k1.w)) (hq.kn w0 k1) hc hS hl).mono ?_)
 rintro v s2 ⟨b, rfl, hb, m2, k2⟩
 have w2 : Wf s2 := k2.wf w1
 have k02 : Kn s s2 := k1.call k2
 have r2 := r1.kp w1 k2 id
 refine run1 ?_
 refine W.loop (α := Nat × St) (fun a => [(4, .pointer (some ⟨s.nx, 0, none⟩)), (5, .pointer (some ⟨b, 0, none⟩)), (10, .slice r P.length d), (11, nI P.length), (12, nI a.1)]) (fun _ => []) (fun a => a.2)
  (fun a => a.1 ≤ P.length ∧ Msg a.2 b b ((out S).map nB) (inn S ++ (P.take a.1).flatMap Prod.snd) ∧ Kp (fun c => c = b) s2 a.2) (fun a => P.length - a.1) (0, s2) ⟨Nat.zero_le _, by rw [List.take_zero, List.flatMap_nil, List.append_nil]; exact m2, .refl⟩ (.cons rfl (.cons rfl (.cons rfl (.cons rfl (.cons rfl .nil))))) rfl rfl (by show P.length - 0 < _; omega) ?_
 rintro ⟨i, t0⟩ ⟨i1, i2, i3⟩
 simp only at i1 i2 i3
 dsimp only
 have hsb : s.nx < b := by omega
 have kb : Kp (fun c => s.nx < c) s t0 := (k02.w).trans (i3.mono fun c h => by subst h; omega)
 have kb' : Kp (fun c => s.nx ≤ c) s t0 := kb.mono fun c h => Nat.le_of_lt h
 have wt : Wf t0 := kb.wf w0
 have hl9 : ∀ {A B : List (Value × List Nat)}, ((A ++ B).flatMap Prod.snd).length = (A.flatMap Prod.snd).length + (B.flatMap Prod.snd).length := fun {A B} => by rw [List.flatMap_append, List.length_append]
 by_cases hi : i < P.length
 ·obtain ⟨γ0, g1, g2⟩ := hr.sl
  have hq' : At t0 r (P.map Prod.fst) := (g1.kp w0 kb (by have := g2 w0; omega)).at
  obtain ⟨q1, c1, e1, e2, e3, e4⟩ := hP _ (List.getElem_mem hi)
  obtain ⟨δ, f1, f2⟩ := e2.sl
  have f3 := f2 w0
  have f1' : Sl t0 q1 ((P[i].2).map nB) δ := f1.kp w0 kb (by omega)
  have hld : ldq t0 (qadd r (i * 1)) = some (.slice q1 P[i].2.length c1) := by
   rw [Nat.mul_one, hq'.ld (by rw [List.length_map]; exact hi), List.getElem_map, e1]
  have hgood : good r := hq'.good (i := i) (by rw [List.length_map]; exact hi)
  have hlen : ((P.take i).flatMap Prod.snd).length + P[i].2.length < 2 ^ 58 := by
   have : P = P.take i ++ (P[i] :: P.drop (i + 1)) := by rw [← List.drop_eq_getElem_cons hi, List.take_append_drop]
   rw [this, hl9, List.flatMap_cons, List.length_append] at hn
   omega
  have hil := inn_length (S := S)
  refine run1 ?_
  refine Wo.call rfl (Xc.call ok93 rfl) rfl ((mwrite_ok wt (fun s' k => hT.kpN w0 (kb'.trans (k.mono fun c h => by subst h; omega))) i2 f1' (by omega) e3 e4 (by rw [List.length_append]; omega) (by omega)).mono ?_)
  rintro v t1 ⟨m1, m2, m3⟩
  refine run1 ?_
  have et : inn S ++ (P.take (i + 1)).flatMap Prod.snd = inn S ++ (P.take i).flatMap Prod.snd ++ P[i].2 := by
   rw [List.take_succ_eq_append_getElem hi, List.flatMap_append]; simp
  exact rnd.n (i + 1, t1) ⟨hi, by show Msg t1 _ _ _ (inn S ++ (P.take (i + 1)).flatMap Prod.snd); rw [et]; exact m1, i3.trans m3⟩ (by show P.length - (i + 1) < P.length - i; omega) (.cons rfl (.cons rfl (.cons rfl (.cons rfl (.cons rfl .nil))))) rfl rfl
 ·have e : i = P.length := by omega
  subst e
  rw [List.take_length] at i2
  have hil := inn_length (S := S)
  refine run1 ?_
  refine Wo.call rfl (Xc.call ok94 rfl) rfl ((kcode_ok wt (hT.kpN w0 kb') i2 out_length mk_byte (by rw [List.length_append]; omega)).mono ?_)
  rintro v t1 ⟨rfl, g1⟩
  obtain ⟨F, hF⟩ : ∃ F, F = hmc S (P.flatMap Prod.snd) := ⟨_, rfl⟩
  have hFl : F.length = 32 := by rw [hF]; exact hmc_length
  rw [show shaOf (out S ++ shaOf (inn S ++ List.flatMap Prod.snd P)) = F from hF.symm, ← hF]
  refine run1 ?_
  refine Wo.st rfl rfl rfl rfl rfl rfl (by rw [List.length_map, hFl]) one_nB ((r2.kp w2 i3 (by omega)).kp wt g1 id) (by rw [List.length_map, List.length_replicate]; decide) fun s7 r7 n7 k7 => ?_
  rw [lov_all (by rw [List.length_map, List.length_map, hFl, List.length_replicate])] at r7
  refine run1 ?_
  have hcl := cell_at (B := B) (t := 32) (n := 32) (k := .ar 32 5) rfl rfl r7 (by rw [List.length_map, hFl]) rfl
  refine Lv.ret (vs := [hsh F]) ?_ ⟨rfl, ((k02.app i3 (by omega)).call g1).app k7 (Nat.le_refl _)⟩
  show (match cell1 B.P (.pointer (some ⟨s.nx, 0, none⟩)) 32 s7, some [] with | some v, some vs => some (v :: vs) | _, _ => none) = _
  rw [hcl]; rfl
end Go.Proofs.YtglilbadldocoaaGreatDoor
