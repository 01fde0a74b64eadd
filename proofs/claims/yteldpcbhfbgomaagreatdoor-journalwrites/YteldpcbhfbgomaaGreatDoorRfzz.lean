import Derived.Test.YteldpcbhfbgomaaGreatDoorDg2zz
import Derived.Test.YteldpcbhfbgomaaGreatDoorDezz
namespace Go.Sy
open Go Go.Ev
theorem Xv.buildA {X : Fx} {env : Env} {s : St} {t t0 n0 n e t1 size : Nat} {z cs : List Value} {ke : Sh} {z1 : Option (List Value)} {ps : Array (Nat × Operand)} (ht : tk X.B.T t = some ⟨t0, n0, .ar n e, some z⟩) (he : tk X.B.T e = some ⟨t1, size, ke, z1⟩) (hp0 : fillN (fun i => some (Nat.mul i size, size)) env ps.toList z = some cs) : Xv X (.build t ps) env s (.agg ⟨cs⟩) s := fun tm hf => by
 have hp := fillN_eq hp0
 obtain ⟨h1, _, _, _⟩ := X.B.zr ht
 show xBuild X.P t ps.toList tm s = _
 unfold xBuild
 simp only [show zeroCs X.P t = some z from h1, show X.P.underlying t = _ from X.B.un ht, show sizeOfT X.P e = _ from X.B.sz he]
 rw [fillE_ok (fun _ _ h => h) hf hp]; rfl
end Go.Sy
namespace Go.Proofs.YteldpcbhfbgomaaGreatDoor
open Go Go.Ev Go.Sy
set_option maxRecDepth 100000
variable {s s0 : St} {p γ δ n c m N d : Nat} {q : Option Addr} {A D F : List Nat} {L cs : List Value}
def fh (n : Nat) : List Nat := [202, (n >>> 16) % 256, (n >>> 8) % 256, n % 256, ((n >>> 16) % 256 ^^^ 255) % 256, ((n >>> 8) % 256 ^^^ 255) % 256, (n % 256 ^^^ 255) % 256]
theorem headOf_ok (_w0 : Wf s) (_hn : n < 2 ^ 40) : Cl B (.call 52 [nI n]) s fun v s' => v = .agg ⟨(fh n).map nB⟩ ∧ Kn s s' := by
 refine Cl.enter Tryz.f52 fn52 rfl rfl rfl ?_
 refine run1 ?_
 refine Wo.val rfl (Xv.buildA (cs := (fh n).map nB) rfl rfl rfl) rfl ?_
 obtain ⟨H, hH⟩ : ∃ H, H = fh n := ⟨_, rfl⟩
 have hl : H.length = 7 := by rw [hH]; rfl
 rw [← hH]
 refine mk_gen (cs := (List.replicate 7 0).map nB) (M := fun s' => Wo _ _ _ _ _ s' _) fun s1 r1 n1 k1 => ?_
 refine Wo.st rfl rfl rfl rfl rfl rfl (by rw [List.length_map, hl]) one_nB r1 (by decide) fun s2 r2 n2 k2 => ?_
 rw [lov_all (by rw [List.length_map, hl]; rfl)] at r2
 refine run1 ?_
 have hcl := cell_at (B := B) (t := 104) (n := 7) (k := .ar 7 5) rfl rfl r2 (by rw [List.length_map, hl]) rfl
 refine Lv.ret (vs := [.agg ⟨H.map nB⟩]) ?_ ⟨rfl, k1.app k2 (Nat.le_refl _)⟩
 show (match cell1 B.P (.pointer (some ⟨s.nx, 0, none⟩)) 104 s2, some [] with | some v, some vs => some (v :: vs) | _, _ => none) = _
 rw [hcl]
def fw (A : List Nat) : List Nat := fh A.length ++ A
theorem wrap_ok (w0 : Wf s) (ha : At s q (A.map nB)) (hA : A.length ≤ 16384) : Cl B (.call 33 [.slice q A.length c]) s fun v s' => ∃ b, v = .tuple ⟨[.slice (some ⟨b, 0, none⟩) (fw A).length (sure (fw A).length), nI 0]⟩ ∧ s.nx ≤ b ∧ Rw s' b ((fw A).map nB) b ∧ Kn s s' := by
 refine Cl.enter Tryz.f33 fn33 rfl rfl rfl ?_
 have h0 : ¬ 16384 < A.length := by omega
 refine run1 ?_
 refine Wo.call rfl (Xc.call ok52 rfl) rfl ((headOf_ok w0 (by omega)).mono ?_)
 rintro v s1 ⟨rfl, k1⟩
 have w1 : Wf s1 := k1.wf w0
 obtain ⟨H, hH⟩ : ∃ H, H = fh A.length := ⟨_, rfl⟩
 have hl : H.length = 7 := by rw [hH]; rfl
 have hfw : fw A = H ++ A := by rw [fw, hH]
 have hfl : (fw A).length = 7 + A.length := by rw [hfw, List.length_append, hl]
 rw [← hH]
 refine run1 ?_
 refine mk_gen (cs := (List.replicate 7 0).map nB) (M := fun s' => Wo _ _ _ _ _ s' _) fun s2 r2 n2 k2 => ?_
 have w2 : Wf s2 := k2.wf w1
 refine Wo.st rfl rfl rfl rfl rfl rfl (by rw [List.length_map, hl]) one_nB r2 (by decide) fun s3 r3 n3 k3 => ?_
 rw [lov_all (by rw [List.length_map, hl]; rfl)] at r3
 have k13 : Kn s1 s3 := k2.app k3 (Nat.le_refl _)
 have w3 : Wf s3 := k13.wf w1
 refine run1 ?_
 refine Wo.val rfl (Xv.make rfl rfl rfl rfl rfl (Nat.zero_le _) rfl (by omega) (by omega)) rfl ?_
 refine mk_gen (M := fun s' => Wo _ _ _ _ _ s' _) fun s4 r4 n4 k4 => ?_
 have r4' : Rw s4 s3.nx ((List.replicate (7 + A.length) 0).map nB) s3.nx := by
  rw [← rep_flat]; exact r4
 have w4 : Wf s4 := k4.wf w3
 refine run1 ?_
 refine Wo.val rfl (Xv.slP (b := s1.nx) (o := 0) rfl rfl rfl (by decide)).1 rfl (run1 ?_)
 have r34 := r3.kp w3 k4 id
 refine Wo.appc rfl rfl rfl rfl rfl rfl rfl rfl r4' rfl (cells_at (k := 7) (size := 1) r34.ats (by rw [List.length_map, hl]) (by decide)) (by rw [List.length_map, hl]) one_nB rfl (by omega) (by omega) (by omega) (by rw [List.length_map, List.length_replicate]; omega) ?_
 intro s5 r5 n5 k5
 have e5 : lov ((List.replicate (7 + A.length) 0).map nB) (0 * 1) (H.map nB) = H.map nB ++ ((List.replicate A.length 0).map nB ++ []) := by
  have := lov_app (a := []) (b := (List.replicate 7 0).map nB) (c := (List.replicate A.length 0).map nB) (vs := H.map nB) (o := 0) rfl (by rw [List.length_map, hl]; rfl)
  rw [List.nil_append, ← List.map_append, List.replicate_append_replicate, List.nil_append] at this
  rw [List.append_nil]; exact this
 rw [e5] at r5
 have w5 : Wf s5 := k5.wf w4
 have k15 : Kn s1 s5 := (k13.call k4).app k5 k13.le
 have k05 : Kn s s5 := k1.call k15
 refine run1 ?_
 refine Wo.appc (n := 7) rfl rfl rfl rfl rfl rfl rfl rfl r5 rfl (cells_at (k := A.length) (size := 1) (ha.kn w0 k05) (by rw [List.length_map, Nat.mul_one]) (by decide)) (by rw [List.length_map, Nat.mul_one]) one_nB rfl (by omega) (by omega) (by omega) (by rw [List.length_append, List.length_append, List.length_map, List.length_map, List.length_replicate, hl]; show (7 + A.length) * 1 ≤ 7 + (A.length + 0); omega) ?_
 intro s6 r6 n6 k6
 rw [lov_app (a := H.map nB) (o := 7 * 1) (by rw [List.length_map, hl]) (by rw [List.length_map, List.length_map, List.length_replicate]), List.append_nil, ← List.map_append, ← hfw] at r6
 refine run1 ?_
 refine Lv.ret rfl ⟨s3.nx, ?_, Nat.le_trans k1.le k13.le, r6, k05.app k6 (Nat.le_trans k1.le k13.le)⟩
 rw [hfl]; rfl
theorem listOf_ok (_w0 : Wf s) : Cl B (.call 28 [.slice q n c]) s fun v s' => v = .agg ⟨[.bool true, .slice none 0 0, .slice q n c]⟩ ∧ Kn s s' := by
 refine Cl.enter Tryz.f28 fn28 rfl rfl rfl ?_
 refine run1 ?_
 refine mk_gen (cs := z3) (M := fun s' => Wo _ _ _ _ _ s' _) fun s1 r1 n1 k1 => ?_
 refine Wo.st rfl rfl rfl rfl rfl rfl rfl (by intro v hv; simp at hv; rcases hv with rfl | rfl | rfl <;> rfl) r1 (by decide) fun s3 r3 n3 k3 => ?_
 have r3' : Rw s3 s.nx [.bool true, .slice none 0 0, .slice q n c] s.nx := r3
 refine run1 ?_
 have hcl := cell_at (B := B) (t := 69) rfl rfl r3' rfl rfl
 refine Lv.ret (vs := [.agg ⟨[.bool true, .slice none 0 0, .slice q n c]⟩]) ?_ ⟨rfl, k1.app k3 (Nat.le_refl _)⟩
 show (match cell1 B.P (.pointer (some ⟨s.nx, 0, none⟩)) 69 s3, some [] with | some v, some vs => some (v :: vs) | _, _ => none) = _
 rw [hcl]
theorem stringItem_ok (_w0 : Wf s) : Cl B (.call 30 [.slice q n c]) s fun v s' => v = .agg ⟨[.bool false, .slice q n c, .slice none 0 0]⟩ ∧ Kn s s' := by
 refine Cl.enter Tryz.f30 fn30 rfl rfl rfl ?_
 refine run1 ?_
 refine mk_gen (cs := z3) (M := fun s' => Wo _ _ _ _ _ s' _) fun s1 r1 n1 k1 => ?_
 refine Wo.st rfl rfl rfl rfl rfl rfl rfl (by intro v hv; simp at hv; rcases hv with rfl | rfl | rfl <;> rfl) r1 (by decide) fun s3 r3 n3 k3 => ?_
 have r3' : Rw s3 s.nx [.bool false, .slice q n c, .slice none 0 0] s.nx := r3
 refine run1 ?_
 have hcl := cell_at (B := B) (t := 69) rfl rfl r3' rfl rfl
 refine Lv.ret (vs := [.agg ⟨[.bool false, .slice q n c, .slice none 0 0]⟩]) ?_ ⟨rfl, k1.app k3 (Nat.le_refl _)⟩
 show (match cell1 B.P (.pointer (some ⟨s.nx, 0, none⟩)) 69 s3, some [] with | some v, some vs => some (v :: vs) | _, _ => none) = _
 rw [hcl]
theorem numItem_ok (w0 : Wf s) (hn : n < 2 ^ 62) : Cl B (.call 29 [nI n]) s fun v s' => ∃ b, v = .agg ⟨[.bool false, .slice (some ⟨b, 0, none⟩) (dgs n).length (sure (dgs n).length), .slice none 0 0]⟩ ∧ s.nx ≤ b ∧ Rw s' b ((dgs n).map nB) b ∧ Kn s s' := by
 refine Cl.enter Tryz.f29 fn29 rfl rfl rfl ?_
 refine run1 ?_
 refine mk_gen (cs := z3) (M := fun s' => Wo _ _ _ _ _ s' _) fun s1 r1 n1 k1 => ?_
 have w1 : Wf s1 := k1.wf w0
 refine Wo.call rfl (Xc.call ok49 rfl) rfl ((number_ok w1 hn).mono ?_)
 rintro v s2 ⟨b, rfl, hb, r2, k2⟩
 have w2 : Wf s2 := k2.wf w1
 refine run1 ?_
 refine mk_gen (cs := z3) (M := fun s' => Wo _ _ _ _ _ s' _) fun s3 r3 n3 k3 => ?_
 have w3 : Wf s3 := k3.wf w2
 refine Wo.st rfl rfl rfl rfl rfl rfl rfl (by intro v hv; simp at hv; rcases hv with rfl | rfl | rfl <;> rfl) r3 (by decide) fun s4 r4 n4 k4 => ?_
 have r4' : Rw s4 s2.nx [.bool false, .slice (some ⟨b, 0, none⟩) (dgs n).length (sure (dgs n).length), .slice none 0 0] s2.nx := r4
 have w4 : Wf s4 := k4.wf w3
 have l4 := r4'.all (n := 3) rfl (by decide)
 have k24 : Kn s2 s4 := k3.app k4 (Nat.le_refl _)
 refine run1 ?_
 refine Wo.st rfl rfl rfl rfl rfl rfl rfl (by intro v hv; simp at hv; rcases hv with rfl | rfl | rfl <;> rfl) (r1.kp w1 (k2.call k24) id) (by decide) fun s5 r5 n5 k5 => ?_
 have r5' : Rw s5 s.nx [.bool false, .slice (some ⟨b, 0, none⟩) (dgs n).length (sure (dgs n).length), .slice none 0 0] s.nx := r5
 refine run1 ?_
 have hcl := cell_at (B := B) (t := 69) rfl rfl r5' rfl rfl
 refine Lv.ret (vs := [.agg ⟨[.bool false, .slice (some ⟨b, 0, none⟩) (dgs n).length (sure (dgs n).length), .slice none 0 0]⟩]) ?_ ⟨b, rfl, by omega, (r2.kp w2 k24 id).kp w4 k5 (by omega), (k1.call (k2.call k24)).app k5 (Nat.le_refl _)⟩
 show (match cell1 B.P (.pointer (some ⟨s.nx, 0, none⟩)) 69 s5, some [] with | some v, some vs => some (v :: vs) | _, _ => none) = _
 rw [hcl]
end Go.Proofs.YteldpcbhfbgomaaGreatDoor
namespace Go.Sy
open Go Go.Ev
theorem Wd.slLH {X : Fx} {env : Env} {df : List Deferred} {s : St} {Q : Post} {all : List Oper} {d : Option Nat} {ty : TypeId} {pos : String} {af : Array Edge} {gd : Option (Nat × Bool)} {i m : Nat} {L : List Sp} {past : Past} {t t0 n0 e t1 size : Nat} {z0 z : Option (List Value)} {ke : Sh} {x y u : Operand} {k k' : IntKind} {b n c l h γ : Nat} {cs : List Value} (hgd : wantsE all env gd = some true) (hd : dOk X d = true) (ht : tk X.B.T t = some ⟨t0, n0, .sl e, z0⟩) (he : tk X.B.T e = some ⟨t1, size, ke, z⟩) (hx : ev env x = some (.slice (some ⟨b, 0, none⟩) n c)) (hy : ev env y = some (.int k (.ofNat l))) (hu : ev env u = some (.int k' (.ofNat h))) (hg : Gw s (some ⟨b, 0, none⟩) n c size cs γ) (hlh : l < h) (hh : h ≤ n) (hn : n < 2 ^ 60)
  (K : ∀ c', Wd X all L past (up d (.slice (some ⟨b, l * size, none⟩) (h - l) c') env) df s Q) : Wd X all (.mk .none i ⟨d, .slice t x (some y) (some u) none, ty, pos, af, gd⟩ m :: L) past env df s Q := by
 obtain ⟨c', a⟩ := Xv.slLH (X := X) (s := s) ht he hx hy hu hg hlh hh hn
 exact Wd.val hgd a hd (Nat.le_refl _) (K c')
end Go.Sy
namespace Go.Proofs.YteldpcbhfbgomaaGreatDoor
open Go Go.Ev Go.Sy
set_option maxRecDepth 100000
variable {s : St} {n c : Nat} {q : Option Addr} {M A : List Nat}
theorem padL_byte : ∀ x ∈ padL n, x < 256 := fun x hx => pdN_byte x (List.mem_of_mem_take hx)
theorem ok_H0 : Dg.Ok8 Dg.H0 := ⟨by decide, by decide, by decide, by decide, by decide, by decide, by decide, by decide⟩
theorem eqV_wv' {w : W8} : eqV 5 (.agg ⟨wv w⟩) (.agg ⟨wv w⟩) = true := eqV_wv
theorem one_wv {w : W8} : ∀ v ∈ wv w, one v = true := fun v hv => by
 simp only [wv, List.mem_cons, List.not_mem_nil, or_false] at hv; rcases hv with rfl | rfl | rfl | rfl | rfl | rfl | rfl | rfl <;> rfl
set_option maxHeartbeats 1600000 in
theorem rsum_ok (w0 : Wf s) (hT : TabAt s) (ha : Bs s q M) (hMb : ∀ x ∈ M, x < 256) (hM : M.length < 2 ^ 40) :
  Cl B (.call 78 [.slice q M.length c]) s fun v s' => v = hsh (shaOf M) ∧ Kn s s' := by
 refine Cl.enter Tryz.f78 fn78 rfl rfl rfl ?_
 refine run1 ?_
 refine mk_gen (cs := (List.replicate 32 0).map nB) (M := fun s' => Wo _ _ _ _ _ s' _) fun s1 r1 n1 k1 => ?_
 have w1 : Wf s1 := k1.wf w0
 refine Wo.val rfl (Xv.buildA (cs := wv Dg.H0) rfl rfl rfl) rfl (run1 ?_)
 obtain ⟨h0, eh0⟩ : ∃ h0, h0 = Dg.H0 := ⟨_, rfl⟩
 rw [← eh0]
 refine mk_gen (cs := wv ⟨0, 0, 0, 0, 0, 0, 0, 0⟩) (M := fun s' => Wo _ _ _ _ _ s' _) fun s2 r2 n2 k2 => ?_
 have w2 : Wf s2 := k2.wf w1
 refine Wo.st rfl rfl rfl rfl rfl rfl rfl one_wv r2 (by decide) fun s3 r3 n3 k3 => ?_
 have r3 : Rw s3 s1.nx (wv h0) s1.nx := by
  have e : lov (wv ⟨0, 0, 0, 0, 0, 0, 0, 0⟩) 0 (wv h0) = wv h0 := lov_all rfl
  rw [← e]; exact r3
 have k13 : Kn s1 s3 := k2.app k3 (Nat.le_refl _)
 have w3 : Wf s3 := k13.wf w1
 have k03 : Kn s s3 := k1.call k13
 refine run1 ?_
 refine Wo.call rfl (Xc.call ok94 rfl) rfl ((padded_ok w3 (ha.kn w0 k03) hM).mono ?_)
 rintro v s4 ⟨qp, cp, γp, rfl, gp, lp, k4⟩
 have w4 : Wf s4 := k4.wf w3
 have hpl : (M ++ padL M.length).length = M.length + (zend M.length + 8) := by rw [List.length_append, padL_length]
 have hpm := pad_mod (M := M)
 have hz := zend_lt (n := M.length)
 have hsa := sha_all (M := M)
 have hPb : ∀ x ∈ M ++ padL M.length, x < 256 := fun x hx => by
  rcases List.mem_append.1 hx with h | h
  ·exact hMb x h
  ·exact padL_byte x h
 obtain ⟨P, hP⟩ : ∃ P, P = M ++ padL M.length := ⟨_, rfl⟩
 rw [← hP] at hpl hpm hsa hPb gp ⊢
 obtain ⟨bp, rfl, hrow, hcap⟩ := gp.rw (by omega)
 have r34 : Rw s4 s1.nx (wv h0) s1.nx := r3.kp w3 k4 id
 have hn3 := k13.le
 have h13 : s1.nx < s3.nx := by omega
 refine run1 ?_
 refine W.loop (α := Nat × St) (fun a => [(2, .pointer (some ⟨s.nx, 0, none⟩)), (3, .pointer (some ⟨s1.nx, 0, none⟩)), (4, .slice (some ⟨bp, 0, none⟩) P.length cp), (5, nI (64 * a.1))]) (fun _ => []) (fun a => a.2)
  (fun a => 64 * a.1 ≤ P.length ∧ Rw a.2 s1.nx (wv (fwN a.1 h0 P)) s1.nx ∧ Dg.Ok8 (fwN a.1 h0 P) ∧ Kp (fun c => c = s1.nx) s4 a.2) (fun a => P.length - 64 * a.1) (0, s4) ⟨Nat.zero_le _, r34, by rw [eh0]; exact ok_H0, .refl⟩ (.cons rfl (.cons rfl (.cons rfl (.cons rfl .nil)))) rfl rfl (by show P.length - 64 * 0 < _; omega) ?_
 rintro ⟨j, t0⟩ ⟨i1, i2, i3, i4⟩
 simp only at i1 i2 i3 i4
 dsimp only
 have wt : Wf t0 := i4.wf w4
 have kt : Kp (fun c => s.nx ≤ c) s t0 := ((k03.call k4).mono fun _ h => absurd h id).trans (i4.mono fun c h => by omega)
 by_cases hj : 64 * j < P.length
 ·have hlw := i2.all (n := 8) rfl (by decide)
  have gpt : Gw t0 (some ⟨bp, 0, none⟩) P.length cp 1 (P.map nB) γp := gp.kp w4 i4 (by omega)
  have hDl : ((P.drop (64 * j)).take 64).length = 64 := by rw [List.length_take, List.length_drop]; omega
  have hDb : ∀ x ∈ (P.drop (64 * j)).take 64, x < 256 := fun x hx => hPb x (List.mem_of_mem_drop (List.mem_of_mem_take hx))
  have aD : At t0 (some ⟨bp, 64 * j * 1, none⟩) (((P.drop (64 * j)).take 64).map nB) := by
   have := ((gpt.sl.drop (n := 64 * j) (by rw [List.length_map]; omega)).take (n := 64)).at
   rw [← List.map_drop, ← List.map_take, Nat.zero_add] at this
   rw [Nat.mul_one]; exact this
  refine run1 ?_
  refine W.dr [(0, .reads, 0), (1, .none, 0), (2, .none, 0), (3, .none, 0), (4, .none, 8), (5, .none, 30), (6, .acts, 63), (7, .acts, 127)] (by kernel_rfl) rfl ?_
  refine Wd.read rfl (Xv.ldN rfl rfl rfl hlw) rfl eqV_wv' ⟨Xv.ldN rfl rfl rfl hlw, trivial⟩ (run1 ?_)
  refine Wd.slLH rfl rfl rfl rfl rfl rfl rfl gpt (by omega) (by omega) (by omega) fun c' => ?_
  rw [show 64 * j + 64 - 64 * j = 64 by omega]
  refine Wd.call rfl (Xc.call ok95 rfl) rfl ((rmixed_ok (_o := 0) i3 (hT.kpN w0 kt) aD hDl hDb).mono ?_)
  rintro v s' ⟨rfl, e'⟩; rw [e']; clear e' s'
  refine ⟨Nat.le_refl _, ?_⟩
  have ef : Dg.eb (fwN j h0 P) ((P.drop (64 * j)).take 64) = fwN (j + 1) h0 P := by rw [fwN_succ, Nat.mul_comm 64 j]
  obtain ⟨w', hw'⟩ : ∃ w', w' = fwN (j + 1) h0 P := ⟨_, rfl⟩
  rw [ef, ← hw']
  have ok' : Dg.Ok8 w' := by rw [hw', ← ef]; exact eb_ok hDl
  refine Wd.st rfl rfl rfl rfl rfl rfl rfl one_wv i2 (by show 0 + 8 ≤ 8; decide) fun t1 y1 y2 y3 => ?_
  have y1' : Rw t1 s1.nx (wv w') s1.nx := by
   have e : lov (wv (fwN j h0 P)) 0 (wv w') = wv w' := lov_all rfl
   rw [← e]; exact y1
  refine run1 ?_
  refine rnd.n (j + 1, t1) ⟨by show 64 * (j + 1) ≤ P.length; omega, by show Rw t1 s1.nx (wv (fwN (j + 1) h0 P)) s1.nx; rw [← hw']; exact y1', by show Dg.Ok8 (fwN (j + 1) h0 P); rw [← hw']; exact ok', i4.trans y3⟩ (by show P.length - 64 * (j + 1) < P.length - 64 * j; omega) (.cons rfl (.cons rfl (.cons rfl (.cons rfl .nil)))) rfl rfl
 ·have ej : j = P.length / 64 := by omega
  have efw : fwN j h0 P = fwN ((M.length % 64 + (padL M.length).length) / 64) (mw M) (mr M ++ padL M.length) := by rw [ej, eh0]; exact hsa
  obtain ⟨w', hw'⟩ : ∃ w', w' = fwN j h0 P := ⟨_, rfl⟩
  rw [← hw'] at i2 efw
  have esh : shaOf M = (List.range 32).map (sb w') := by rw [← sum_bytes, efw]; rfl
  rw [esh]
  refine run1 ?_
  refine mk_gen (cs := (List.replicate 32 0).map nB) (M := fun s' => W _ _ _ _ s' _) fun t1 z1 m1 g1 => ?_
  have wt1 : Wf t1 := g1.wf wt
  have i2' := i2.kp wt g1 id
  have hnt := i4.le
  have hn4 := k4.le
  refine W.loop (α := Nat × St) (fun a => [(2, .pointer (some ⟨s.nx, 0, none⟩)), (3, .pointer (some ⟨s1.nx, 0, none⟩)), (6, .pointer (some ⟨t0.nx, 0, none⟩)), (7, nI a.1)]) (fun _ => []) (fun a => a.2)
   (fun a => a.1 ≤ 32 ∧ Rw a.2 t0.nx (((List.range a.1).map (sb w') ++ List.replicate (32 - a.1) 0).map nB) t0.nx ∧ Kp (fun c => c = t0.nx) t1 a.2) (fun a => 32 - a.1) (0, t1) ⟨Nat.zero_le _, z1, .refl⟩ (.cons rfl (.cons rfl (.cons rfl (.cons rfl .nil)))) rfl rfl (by show 32 - 0 < _; decide) ?_
  rintro ⟨i, t2⟩ ⟨x1, x2, x3⟩
  simp only at x1 x2 x3
  dsimp only
  have wt2 : Wf t2 := x3.wf wt1
  by_cases hi : i < 32
  ·refine run1 ?_
   have h4 : i / 4 < 8 := by omega
   refine Wo.val rfl (Xv.iaP rfl rfl rfl rfl h4) rfl ?_
   have i2t : Rw t2 s1.nx (wv w') s1.nx := i2'.kp wt1 x3 (by omega)
   have hld : ldq t2 (some ⟨s1.nx, 0 + i / 4 * 1, none⟩) = some (.int .u32 (.ofNat ((wl w').getD (i / 4) 0))) := i2t.f1 (wv_get h4)
   refine Wo.val rfl (Xv.ld rfl rfl rfl hld) rfl ?_
   obtain ⟨x, hx⟩ : ∃ x, x = (wl w').getD (i / 4) 0 := ⟨_, rfl⟩
   rw [← hx]
   refine Wo.val rfl (Xv.move rfl) rfl ?_
   refine Wo.val rfl (Xv.remI rfl rfl (by decide)) rfl ?_
   obtain ⟨r, hr⟩ : ∃ r, r = i % 4 := ⟨_, rfl⟩
   have hr4 : r < 4 := by omega
   rw [← hr]
   refine run1 ?_
   refine Wo.val rfl (Xv.ar (r := x >>> (24 - 8 * r)) rfl rfl rfl (by show cond (Nat.ble (24 - 8 * r) 32) (some (Nat.shiftRight _ _)) none = _; rw [Nat.ble_eq_true_of_le (by omega)]; rfl)) rfl (run1 ?_)
   refine Wo.val rfl (Xv.iaP rfl rfl rfl rfl hi) rfl ?_
   have hll : ((List.range i).map (sb w') ++ List.replicate (32 - i) 0).length = 32 := by rw [List.length_append, List.length_map, List.length_range, List.length_replicate]; omega
   refine Wo.st rfl rfl rfl rfl rfl rfl rfl (by intro v hv; rw [List.mem_singleton.1 hv]; rfl) x2 (by rw [List.length_map, hll]; show 0 + i * 1 + 1 ≤ 32; omega) fun t3 y1 y2 y3 => ?_
   have y1' : Rw t3 t0.nx (((List.range (i + 1)).map (sb w') ++ List.replicate (32 - (i + 1)) 0).map nB) t0.nx := by
    have e := lov_app (a := ((List.range i).map (sb w')).map nB) (b := [nB 0]) (c := (List.replicate (32 - (i + 1)) 0).map nB) (vs := [nB (sb w' i)]) (o := 0 + i * 1) (by simp) rfl
    have e1 : ((List.range i).map (sb w') ++ List.replicate (32 - i) 0).map nB = ((List.range i).map (sb w')).map nB ++ ([nB 0] ++ (List.replicate (32 - (i + 1)) 0).map nB) := by
     rw [show 32 - i = (32 - (i + 1)) + 1 by omega, List.replicate_succ, List.map_append]; rfl
    have e2 : ((List.range (i + 1)).map (sb w') ++ List.replicate (32 - (i + 1)) 0).map nB = ((List.range i).map (sb w')).map nB ++ ([nB (sb w' i)] ++ (List.replicate (32 - (i + 1)) 0).map nB) := by
     rw [List.range_succ, List.map_append, List.map_append, List.map_append, List.append_assoc]; rfl
    have e3 : sb w' i = (x >>> (24 - 8 * r)) % 256 := by unfold sb; rw [← hx, ← hr]
    rw [e2, ← e, ← e1, e3]; exact y1
   refine run1 ?_
   exact rnd.n (i + 1, t3) ⟨hi, y1', x3.trans y3⟩ (by show 32 - (i + 1) < 32 - i; omega) (.cons rfl (.cons rfl (.cons rfl (.cons rfl .nil)))) rfl rfl
  ·have e : i = 32 := by omega
   subst e
   rw [Nat.sub_self, List.replicate_zero, List.append_nil] at x2
   obtain ⟨F, hF⟩ : ∃ F, F = (List.range 32).map (sb w') := ⟨_, rfl⟩
   have hFl : F.length = 32 := by rw [hF]; simp
   rw [← hF] at x2 ⊢
   have lF := x2.all (n := 32) (by rw [List.length_map, hFl]) (by decide)
   have r1t : Rw t2 s.nx ((List.replicate 32 0).map nB) s.nx := ((((r1.kp w1 k13 id).kp w3 k4 id).kp w4 i4 (by omega)).kp wt g1 id).kp wt1 x3 (by omega)
   refine run1 ?_
   refine Wo.st rfl rfl rfl rfl rfl rfl (by rw [List.length_map, hFl]) one_nB r1t (by rw [List.length_map, List.length_replicate]; decide) fun s7 r7 n7 k7 => ?_
   rw [lov_all (by rw [List.length_map, List.length_map, hFl, List.length_replicate])] at r7
   refine run1 ?_
   have hcl := cell_at (B := B) (t := 23) (n := 32) (k := .ar 32 5) rfl rfl r7 (by rw [List.length_map, hFl]) rfl
   refine Lv.ret (vs := [hsh F]) ?_ ⟨rfl, ?_⟩
   ·show (match cell1 B.P (.pointer (some ⟨s.nx, 0, none⟩)) 23 s7, some [] with | some v, some vs => some (v :: vs) | _, _ => none) = _
    rw [hcl]; rfl
   ·exact Kp.new (N := s.nx) .refl (((kt.trans (g1.mono fun _ h => absurd h id)).trans (x3.mono fun c h => by omega)).trans (k7.mono fun c h => by omega)) (Nat.le_refl _)
end Go.Proofs.YteldpcbhfbgomaaGreatDoor
