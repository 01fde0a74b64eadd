import Derived.Test.YtcnhinnpieehoaaGreatDoorLkzz
import Derived.Test.YtcnhinnpieehoaaGreatDoorMbzz
import Derived.Test.YtcnhinnpieehoaaGreatDoorCbzz
namespace Go.Sy
open Go Go.Ev
theorem Wo.mkM {X : Fx} {env : Env} {df : List Deferred} {s : St} {Q : Post} {all os : List Oper} {d : Option Nat} {ty : TypeId} {pos : String} {af : Array Edge} {gd : Option (Nat × Bool)} {t : Nat} (hg : wantsE all env gd = some true) (hd : dOk X d = true)
  (K : ∀ s', Mp s' s.nx [] → s'.nx = s.nx + 1 → Kn s s' → Wo X all os (up d (.map (some s.nx)) env) df s' Q) : Wo X all (⟨d, .makeMap t none, ty, pos, af, gd⟩ :: os) env df s Q := by
 obtain ⟨s', a, b, c, e⟩ := Xv.mkM (X := X) (env := env) (s := s) (t := t)
 exact Wo.val hg a hd (K s' b c e)
end Go.Sy
namespace Go.Proofs.YtcnhinnpieehoaaGreatDoor
open Go Go.Ev Go.Sy
set_option maxRecDepth 100000
variable {s : St} {p γ δ n c : Nat} {q : Option Addr} {S M A D O R : List Nat}
theorem HH : HT B.P 23 5 := ⟨B.un (t := 23) rfl, B.un (t := 5) rfl, B.sz (t := 5) rfl⟩
theorem HG : B.P.eqGuardType B.P.depth 23 = false := by kernel_rfl
theorem bmay_ok (_hn : n < 2 ^ 60) : Cl B (.call 31 [nI n]) s fun v s' => v = .bool (decide (8 ≤ n ∧ n ≤ 256)) ∧ s' = s := by
 refine Cl.enter Tryz.f31 fn31 rfl rfl rfl ?_
 by_cases h : 8 ≤ n
 ·refine run1 ?_
  refine Lv.ret rfl ⟨?_, rfl⟩
  exact congrArg Value.bool (decide_eq_decide.2 ⟨fun k => ⟨h, k⟩, fun k => k.2⟩)
 ·refine run1 ?_
  refine Lv.ret rfl ⟨?_, rfl⟩
  exact congrArg Value.bool (decide_eq_false fun k => h k.1).symm
theorem blank_ok (w0 : Wf s) : Cl B (.call 32 []) s fun v s' => ∃ r, v = .agg ⟨[.map (some r), nI 0]⟩ ∧ s.nx ≤ r ∧ Mp s' r [] ∧ Kn s s' := by
 refine Cl.enter Tryz.f32 fn32 rfl rfl rfl ?_
 refine run1 ?_
 refine mkO fun s1 r1 n1 k1 => ?_
 have w1 : Wf s1 := k1.wf w0
 refine Wo.mkM rfl rfl fun s2 m2 n2 k2 => ?_
 have w2 : Wf s2 := k2.wf w1
 refine run1 ?_
 refine Wo.st rfl rfl rfl rfl rfl rfl rfl (by intro v hv; simp at hv; rcases hv with rfl | rfl <;> rfl) (r1.kp w1 k2 id) (by decide) fun s3 r3 n3 k3 => ?_
 have r3' : Rw s3 s.nx [.map (some s1.nx), nI 0] s.nx := r3
 refine run1 ?_
 have hcl := cell_at (B := B) (t := 69) rfl rfl r3' rfl rfl
 refine Lv.ret (vs := [.agg ⟨[.map (some s1.nx), nI 0]⟩]) ?_ ⟨s1.nx, rfl, by omega, m2.kp w2 k3 (by omega), (k1.call k2).app k3 (Nat.le_refl _)⟩
 show (match cell1 B.P (.pointer (some ⟨s.nx, 0, none⟩)) 69 s3, some [] with | some v, some vs => some (v :: vs) | _, _ => none) = _
 rw [hcl]
def bkV (nb cb : Nat) (S : List Nat) (r1 n1 r2 n2 r3 n3 : Nat) : List Value :=
 nI nb :: nI cb :: (S.map nB ++ [.int .i32 0, .int .u32 0, .map (some r1), nI n1, .map (some r2), nI n2, .map (some r3), nI n3])
theorem bk_len {nb cb r1 n1 r2 n2 r3 n3 : Nat} (hS : S.length = 32) : (bkV nb cb S r1 n1 r2 n2 r3 n3).length = 42 := by simp [bkV, hS]
variable {nb cb r1 n1 r2 n2 r3 n3 : Nat}
theorem bk_sec {z : List Nat} (h : z.length = 32) (hS : S.length = 32) : lov (bkV nb cb z r1 n1 r2 n2 r3 n3) 2 (S.map nB) = bkV nb cb S r1 n1 r2 n2 r3 n3 :=
 lov_app (a := [nI nb, nI cb]) (b := z.map nB) (c := [.int .i32 0, .int .u32 0, .map (some r1), nI n1, .map (some r2), nI n2, .map (some r3), nI n3]) (vs := S.map nB) (o := 2) rfl (by rw [List.length_map, List.length_map, h, hS])
theorem lov_right {a l vs : List Value} {i : Nat} : lov (a ++ l) (a.length + i) vs = a ++ lov l i vs := by
 unfold lov
 rw [List.take_length_add_append, Nat.add_assoc, List.drop_length_add_append, List.append_assoc]
theorem lov_one {l : List Value} {i : Nat} {v : Value} (h : i < l.length) : lov l i [v] = l.set i v := by
 rw [List.set_eq_take_append_cons_drop, if_pos h]; rfl
def bkT (nb cb : Nat) (S : List Nat) (l : List Value) : List Value := (nI nb :: nI cb :: S.map nB) ++ l
def bl (g : Int) (r1 n1 r2 n2 r3 n3 : Nat) : List Value := [.int .i32 g, .int .u32 0, .map (some r1), nI n1, .map (some r2), nI n2, .map (some r3), nI n3]
theorem bk_eq : bkV nb cb S r1 n1 r2 n2 r3 n3 = bkT nb cb S (bl 0 r1 n1 r2 n2 r3 n3) := by simp [bkV, bkT, bl]
theorem bkT_at {i : Nat} {l : List Value} (hS : S.length = 32) : (bkT nb cb S l)[34 + i]? = l[i]? := by
 unfold bkT
 rw [List.getElem?_append_right (by simp [hS])]
 simp [hS]
theorem bkT_set {i : Nat} {v : Value} {l : List Value} (hS : S.length = 32) (hi : i < l.length) : lov (bkT nb cb S l) (34 + i) [v] = bkT nb cb S (l.set i v) := by
 have := lov_right (a := nI nb :: nI cb :: S.map nB) (l := l) (vs := [v]) (i := i)
 rw [lov_one hi, show (nI nb :: nI cb :: S.map nB).length = 34 by simp [hS]] at this
 exact this
theorem bkT_len {l : List Value} (hS : S.length = 32) : (bkT nb cb S l).length = 34 + l.length := by simp [bkT, hS]; omega
theorem dnew_ok {nb cb : Nat} (w0 : Wf s) (hq : At s q (S.map nB)) (hS : S.length = 32) (h1 : 8 ≤ nb ∧ nb ≤ 256) (h2 : 8 ≤ cb ∧ cb ≤ 256) :
  Cl B (.call 14 [nI nb, nI cb, .slice q 32 c]) s fun v s' => ∃ b r1 r2 r3, v = .tuple ⟨[.pointer (some ⟨b, 0, none⟩), nI 0]⟩ ∧ Rw s' b (bkV nb cb S r1 0 r2 0 r3 0) b ∧ Mp s' r1 [] ∧ Mp s' r2 [] ∧ Mp s' r3 [] ∧ s.nx ≤ r1 ∧ r1 < r2 ∧ r2 < r3 ∧ r3 < b ∧ Kn s s' := by
 refine Cl.enter Tryz.f14 fn14 rfl rfl rfl ?_
 refine run1 ?_
 refine Wo.call rfl (Xc.call ok31 rfl) rfl ((bmay_ok (by omega)).mono ?_)
 rintro v s' ⟨rfl, e'⟩; rw [e']; clear e' s'
 rw [decide_eq_true h1]
 refine run1 ?_
 refine Wo.call rfl (Xc.call ok31 rfl) rfl ((bmay_ok (by omega)).mono ?_)
 rintro v s' ⟨rfl, e'⟩; rw [e']; clear e' s'
 rw [decide_eq_true h2]
 refine run1 ?_
 refine Wo.call rfl (Xc.call ok32 rfl) rfl ((blank_ok w0).mono ?_)
 rintro v s1 ⟨r1, rfl, g1, m1, k1⟩
 have w1 : Wf s1 := k1.wf w0
 refine run1 ?_
 refine Wo.call rfl (Xc.call ok32 rfl) rfl ((blank_ok w1).mono ?_)
 rintro v s2 ⟨r2, rfl, g2, m2, k2⟩
 have w2 : Wf s2 := k2.wf w1
 refine run1 ?_
 refine Wo.call rfl (Xc.call ok32 rfl) rfl ((blank_ok w2).mono ?_)
 rintro v s3 ⟨r3, rfl, g3, m3, k3⟩
 have w3 : Wf s3 := k3.wf w2
 have l1 := m1.lt w1
 have l2 := m2.lt w2
 have l3 := m3.lt w3
 obtain ⟨z, hz⟩ : ∃ z : List Nat, z = List.replicate 32 0 := ⟨_, rfl⟩
 refine Wo.val rfl (Xv.build (cs := bkV nb cb (List.replicate 32 0) r1 0 r2 0 r3 0) rfl rfl) rfl ?_
 rw [← hz]
 have hzl : z.length = 32 := by rw [hz]; rfl
 refine run1 ?_
 refine mkO (cs := bkV nb cb z r1 0 r2 0 r3 0) fun s4 q4 n4 k4 => ?_
 have w4 : Wf s4 := k4.wf w3
 have gd : good (some ⟨s3.nx, 0, none⟩) := good_b
 refine Wo.val rfl (Xv.nilC rfl) rfl (run1 ?_)
 refine Wo.val rfl (Xv.slP (b := s3.nx) (o := 2) rfl rfl rfl (by decide)).1 rfl (run1 ?_)
 have k04 : Kn s s4 := k1.call (k2.call (k3.call k4))
 refine Wo.cpy rfl rfl rfl rfl rfl rfl rfl q4 (hq.kn w0 k04) (by rw [List.length_map, hS]) one_nB (by rw [bk_len hzl]; decide) fun s5 q5 n5 k5 => ?_
 rw [show (S.map nB).take (min 32 32 * 1) = S.map nB from List.take_of_length_le (by rw [List.length_map, hS]; decide), bk_sec hzl hS] at q5
 refine run1 ?_
 have e1 := k1.le
 have e2 := k2.le
 have e3 := k3.le
 refine Lv.ret rfl ⟨s3.nx, r1, r2, r3, rfl, q5, ?_, ?_, ?_, g1, by omega, by omega, by omega, k04.app k5 (by omega)⟩
 ·exact ((m1.kp w1 (k2.call (k3.call k4)) id).kp w4 k5 (by omega))
 ·exact ((m2.kp w2 (k3.call k4) id).kp w4 k5 (by omega))
 ·exact ((m3.kp w3 k4 id).kp w4 k5 (by omega))
theorem codeOf_ok {b : Nat} {l : List Value} (w0 : Wf s) (hT : TabAt s) (hb : Rw s b (bkT nb cb S l) γ) (hS : S.length = 32) (hSb : ∀ x ∈ S, x < 256) (hq : At s q (A.map nB)) (hA : ∀ x ∈ A, x < 256) (hc : Cap A.length c 1) (hl : A.length < 2 ^ 50) (hcb : cb ≤ 256) :
  Cl B (.call 40 [.pointer (some ⟨b, 0, none⟩), .slice q A.length c]) s fun v s' => v = hsh (cutOf (hmc S A) cb) ∧ Kn s s' := by
 refine Cl.enter Tryz.f40 fn40 rfl rfl rfl ?_
 have gd : good (some ⟨b, 0, none⟩) := good_b
 refine run1 ?_
 refine mk_gen (cs := (List.replicate 32 0).map nB) (M := fun s' => W _ _ _ _ s' _) fun s1 r1 n1 k1 => ?_
 have w1 : Wf s1 := k1.wf w0
 refine W.dr [(0, .none, 0), (1, .none, 1), (2, .none, 3), (3, .none, 7), (4, .none, 0), (5, .makes, 16), (6, .acts, 63), (7, .none, 0), (8, .none, 128), (9, .none, 384), (10, .reads, 896), (11, .acts, 2047), (12, .acts, 4095)] (by kernel_rfl) rfl (run1 ?_)
 refine Wd.val rfl (Xv.nilC rfl) rfl (Nat.le_refl _) (run1 ?_)
 refine Wd.val rfl (Xv.slP (b := b) (o := 2) rfl rfl rfl (by decide)).1 rfl (Nat.le_refl _) (run1 ?_)
 refine mk_gen (M := fun s' => Wd _ _ _ _ _ _ s' _) fun s2 q2 n2 k2 => ?_
 have w2 : Wf s2 := k2.wf w1
 have k02 : Kn s s2 := k1.call k2
 have b2 := hb.kp w0 k02 id
 have aS : At s2 (some ⟨b, 2, none⟩) (S.map nB) := by
  have := (b2.sl (o := 2) (n := 32) (by rw [bkT_len hS]; omega)).at
  have e : ((bkT nb cb S l).drop 2).take 32 = S.map nB := by
   show (S.map nB ++ l).take 32 = _
   rw [List.take_append_of_le_length (by rw [List.length_map, hS]; decide), List.take_of_length_le (by rw [List.length_map, hS]; decide)]
  rwa [e] at this
 have mc := mcode_ok (s := s2) (q := some ⟨b, 2, none⟩) (c := sure 32) (d := sure 1) (r := some ⟨s1.nx, 0, none⟩) (S := S) (P := [(.slice q A.length c, A)]) w2 (hT.kpN w0 (k02.w)) aS (Cap.sure (by omega)) hSb (by omega) q2.ats (fun x hx => by rw [List.mem_singleton.1 hx]; exact ⟨q, c, rfl, hq.kn w0 k02, hc, hA⟩) (by simp; omega) (by show 1 < _; decide)
 rw [hS, show List.flatMap Prod.snd [(Value.slice q A.length c, A)] = A by simp] at mc
 refine Wd.call rfl (Xc.call ok64 rfl) rfl (mc.mono ?_)
 rintro v s3 ⟨rfl, k3⟩
 refine ⟨k3.le, ?_⟩
 have w3 : Wf s3 := k3.wf w2
 obtain ⟨F, hF⟩ : ∃ F, F = hmc S A := ⟨_, rfl⟩
 have hFl : F.length = 32 := by rw [hF]; exact hmc_length
 have hFb : ∀ x ∈ F, x < 256 := by rw [hF]; exact sumN_byte
 rw [← hF]
 have l1 : ldq s1 (qadd (some ⟨b, 0, none⟩) 1) = some (nI cb) := (hb.kp w0 k1 id).f1 rfl
 have l3 : ldq s3 (qadd (some ⟨b, 0, none⟩) 1) = some (nI cb) := (b2.kp w2 k3 id).f1 rfl
 refine run1 ?_
 refine Wd.val rfl (Xv.nilC rfl) rfl (Nat.le_refl _) (run1 ?_)
 refine Wd.call rfl (Xc.call ok63 rfl) rfl ((cut_ok w3 hFl hFb (by omega)).mono ?_)
 rintro v s4 ⟨rfl, k4⟩
 refine ⟨k4.le, ?_⟩
 have w4 : Wf s4 := k4.wf w3
 obtain ⟨G, hG⟩ : ∃ G, G = cutOf F cb := ⟨_, rfl⟩
 have hGl : G.length = 32 := by rw [hG]; exact ctN_length.trans hFl
 rw [← hG]
 have k14 : Kn s1 s4 := k2.call (k3.call k4)
 refine Wd.st rfl rfl rfl rfl rfl rfl (by rw [List.length_map, hGl]) one_nB (r1.kp w1 k14 id) (by rw [List.length_map, List.length_replicate]; decide) fun s7 r7 n7 k7 => ?_
 rw [lov_all (by rw [List.length_map, List.length_map, hGl, List.length_replicate])] at r7
 refine run1 ?_
 have hcl := cell_at (B := B) (t := 23) (n := 32) (k := .ar 32 5) rfl rfl r7 (by rw [List.length_map, hGl]) rfl
 refine Lv.ret (vs := [hsh G]) ?_ ⟨rfl, (k1.call k14).app k7 (Nat.le_refl _)⟩
 show (match cell1 B.P (.pointer (some ⟨s.nx, 0, none⟩)) 23 s7, some [] with | some v, some vs => some (v :: vs) | _, _ => none) = _
 rw [hcl]; rfl
theorem eqV_mp {r : Option Nat} : eqV 5 (.map r) (.map r) = true := by
 show (r == r) = true
 exact beq_self_eq_true r
theorem bs0_ok {r : Option Addr} {d : Nat} : Cl B (.call 98 [.slice none 0 0, .slice r A.length d, bcf]) s fun v s' => v = .tuple ⟨[nI 0, .bool false]⟩ ∧ s' = s := by
 refine Cl.enter Tryz.f98 fn98 rfl rfl rfl ?_
 refine run1 ?_
 refine W.loop (α := Unit) (fun _ => [(0, .slice none 0 0), (1, .slice r A.length d), (2, bcf), (8, nI 0), (9, nI 0), (10, nI 0)]) (fun _ => []) (fun _ => s)
  (fun _ => True) (fun _ => 0) () trivial (.cons rfl (.cons rfl (.cons rfl (.cons rfl (.cons rfl (.cons rfl .nil)))))) rfl rfl (by decide) ?_
 rintro ⟨⟩ _
 have h0 : ¬ 0 < 0 := by decide
 refine run1 ?_
 exact Lv.ret rfl ⟨rfl, rfl⟩
theorem zsl : zeroOf B.P 72 = some (.slice none 0 0) := by kernel_rfl
theorem place_ok {b o : Nat} {l : List Value} {r : Nat} {M : MpE} {H : List Nat} {ql : Option Addr} {m cl i : Nat} {f : Bool} (w0 : Wf s) (hb : Rw s b l γ) (hm : l[o]? = some (.map (some r))) (hM : Mp s r M) (hH : H.length = 32) (hV : (mget H M).getD (.slice none 0 0) = .slice ql m cl)
  (hs : ∀ s', Kn s s' → Cl B (.call 98 [.slice ql m cl, .slice q A.length c, bcf]) s' fun v s'' => v = .tuple ⟨[nI i, .bool f]⟩ ∧ s'' = s') :
  Cl B (.call 65 [.pointer (some ⟨b, o, none⟩), hsh H, .slice q A.length c]) s fun v s' => v = .tuple ⟨[nI i, .bool f]⟩ ∧ Kn s s' := by
 refine Cl.enter Tryz.f65 fn65 rfl rfl rfl ?_
 have gd : good (some ⟨b, o, none⟩) := good_b
 refine run1 ?_
 refine mk_gen (cs := H.map nB) (M := fun s' => W _ _ _ _ s' _) fun s1 r1 n1 k1 => ?_
 have w1 : Wf s1 := k1.wf w0
 have b1 := hb.kp w0 k1 id
 have lm : ldq s1 (qadd (some ⟨b, o, none⟩) 0) = some (.map (some r)) := by
  have := b1.f1 hm
  have e : qadd (some ⟨b, 0, none⟩) o = qadd (some ⟨b, o, none⟩) 0 := by show some (Addr.mk b (0 + o) none) = some (Addr.mk b (o + 0) none); rw [Nat.zero_add, Nat.add_zero]
  rw [e] at this; exact this
 have lh := r1.all (n := 32) (by rw [List.length_map, hH]) (by decide)
 have hM1 := hM.kp w0 k1 id
 refine W.dr [(0, .none, 0), (1, .none, 1), (2, .none, 3), (3, .reads, 7), (4, .reads, 0), (5, .reads, 31), (6, .none, 0), (7, .acts, 127), (8, .none, 255), (9, .none, 255), (10, .none, 1023), (11, .none, 2047)] (by kernel_rfl) rfl (run1 ?_)
 refine Wd.val rfl (Xv.nilC rfl) rfl (Nat.le_refl _) (run1 ?_)
 refine Wd.read rfl (Xv.ld rfl rfl rfl lm) rfl eqV_mp ⟨Xv.ld rfl rfl rfl lm, trivial⟩ ?_
 refine Wd.read rfl (Xv.ldN rfl rfl rfl lh) rfl eqV_h ⟨Xv.ldN rfl rfl rfl lh, trivial⟩ ?_
 have lk : ∀ {X : Fx} {env : Env} {x y : Operand}, X.B = B → ev env x = some (.map (some r)) → ev env y = some (hsh H) → Xv X (.lookup 67 x y false) env s1 (.slice ql m cl) s1 := fun {X env x y} hB hx hy => by
  have := Xv.look (X := X) (ok := false) (t := 67) (key := 23) (elt := 72) (e := 5) (z := .slice none 0 0) (by rw [hB]; rfl) (by show HT X.B.P _ _; rw [hB]; exact HH) (by show zeroOf X.B.P _ = _; rw [hB]; exact zsl) rfl hx hy hH hM1
  rw [← hV]; exact this
 refine Wd.read rfl (lk rfl rfl rfl) rfl eqV_slice ⟨lk rfl rfl rfl, trivial⟩ (run1 ?_)
 refine Wd.call rfl (Xc.call ok98 rfl) rfl ((hs s1 k1).mono ?_)
 rintro v s2 ⟨rfl, e'⟩; rw [e']; clear e' s2
 refine ⟨Nat.le_refl _, run1 ?_⟩
 exact Lv.ret rfl ⟨rfl, k1⟩
end Go.Proofs.YtcnhinnpieehoaaGreatDoor
namespace Go.Sy
open Go Go.Ev
theorem sl_end {X : Fx} {env : Env} {s : St} {t t0 n0 e t1 size : Nat} {z0 z : Option (List Value)} {ke : Sh} {x y : Operand} (ht : tk X.B.T t = some ⟨t0, n0, .sl e, z0⟩) (he : tk X.B.T e = some ⟨t1, size, ke, z⟩) (hx : ev env x = some (.slice none 0 0)) (hy : ev env y = some (nI 0)) : Xv X (.slice t x (some y) none none) env s (.slice none 0 0) s := (Xv.slN ht he hx hy).2
end Go.Sy
namespace Go.Proofs.YtcnhinnpieehoaaGreatDoor
open Go Go.Ev Go.Sy
set_option maxRecDepth 100000
variable {s : St} {p γ δ n c : Nat} {q : Option Addr} {S M A D O R : List Nat} {nb cb r1 n1 r2 n2 r3 n3 : Nat}
theorem insert0_ok {v : Value} {ql : Option Addr} {cl : Nat} (w0 : Wf s) (hl : At s ql [v]) (hv : one v = true) :
  Cl B (.call 66 [.slice none 0 0, nI 0, .slice ql 1 cl]) s fun u s' => ∃ q' c' γ', u = .slice q' 1 c' ∧ Gw s' q' 1 c' 1 [v] γ' ∧ s.nx ≤ γ' ∧ Kn s s' := by
 refine Cl.enter Tryz.f66 fn66 rfl rfl rfl ?_
 refine run1 ?_
 refine Wo.val rfl (sl_end rfl rfl rfl rfl) rfl (run1 ?_)
 refine Wo.app rfl rfl rfl rfl rfl rfl rfl rfl rfl w0 (Gw.nil (γ := s.nx)) rfl (cells_at (k := 1) (size := 1) hl rfl (by decide)) rfl (by intro u hu; rw [List.mem_singleton.1 hu]; exact hv) rfl (by decide) (by decide) ?_
 intro q' c' γ' s' h1 h2 h3
 refine run1 ?_
 refine Lv.ret rfl ⟨q', c', γ', rfl, h1, ?_, Kn.app .refl h2 (Nat.le_refl _)⟩
 rcases h3 with h | ⟨h, _⟩ <;> omega
theorem At.one {b o : Nat} {l : List Value} {v : Value} (h : Rw s b l γ) (hv : l[o]? = some v) {i : Nat} (ho : o = i) : ldq s (some ⟨b, i, none⟩) = some v := by
 subst ho
 have := h.f1 hv
 have e : qadd (some ⟨b, 0, none⟩) o = some ⟨b, o, none⟩ := by show some (Addr.mk b (0 + o) none) = _; rw [Nat.zero_add]
 rw [e] at this; exact this
theorem add_new {b o k : Nat} {l : List Value} {r : Nat} {M : MpE} {H : List Nat} (w0 : Wf s) (hb : Rw s b l γ) (hm : l[o]? = some (.map (some r))) (hn : l[o + 1]? = some (nI k)) (hM : Mp s r M) (hr : r ≠ γ) (hH : H.length = 32) (hno : mget H M = none) (hq : At s q (A.map nB)) (hA : A.length < 2 ^ 40) (hk : k < 2 ^ 60) :
  Cl B (.call 41 [.pointer (some ⟨b, o, none⟩), hsh H, .slice q A.length c]) s fun _ s' => ∃ ql cl qa ca γl γa, Mp s' r (mput H (.slice ql 1 cl) M) ∧ Rw s' b (l.set (o + 1) (nI (k + 1))) γ ∧ Sl s' ql [.slice qa A.length ca] γl ∧ s.nx ≤ γl ∧ Sl s' qa (A.map nB) γa ∧ s.nx ≤ γa ∧ Kp (fun c => c = γ ∨ c = r) s s' := by
 refine Cl.enter Tryz.f41 fn41 rfl rfl rfl ?_
 have gd : good (some ⟨b, o, none⟩) := good_b
 refine run1 ?_
 refine mkO (cs := H.map nB) fun s1 r1 n1 k1 => ?_
 have w1 : Wf s1 := k1.wf w0
 have b1 := hb.kp w0 k1 id
 have hM1 := hM.kp w0 k1 id
 have q1 := hq.kn w0 k1
 have lh1 := r1.all (n := 32) (by rw [List.length_map, hH]) (by decide)
 refine run1 ?_
 refine Wo.call rfl (Xc.call ok65 rfl) rfl ((place_ok (ql := none) (m := 0) (cl := 0) (i := 0) (f := false) w1 b1 hm hM1 hH (by rw [hno]; rfl) (fun s' _ => bs0_ok)).mono ?_)
 rintro v s2 ⟨rfl, k2⟩
 have w2 : Wf s2 := k2.wf w1
 have k12 : Kn s1 s2 := k2
 refine run1 ?_
 refine W.dr [(12, .none, 0), (13, .acts, 4096), (5, .none, 0), (6, .none, 32), (7, .none, 96), (8, .reads, 224), (9, .reads, 0), (10, .reads, 992), (11, .none, 0), (14, .makes, 12288), (15, .acts, 32736), (0, .none, 0), (1, .none, 1), (2, .none, 3), (3, .reads, 7), (4, .reads, 0), (16, .acts, 65535)] (by kernel_rfl) rfl (run1 ?_)
 refine Wd.call rfl (Xc.call ok26 rfl) rfl ((clone_ok w2 (q1.kn w1 k2) (by omega)).mono ?_)
 rintro v s3 ⟨qa, ca, γa, rfl, ga, k3, la⟩
 refine ⟨k3.le, ?_⟩
 have w3 : Wf s3 := k3.wf w2
 have k13 : Kn s1 s3 := k2.call k3
 have lm2 : ldq s2 (qadd (some ⟨b, o, none⟩) 0) = some (.map (some r)) := At.one (b1.kp w1 k2 id) hm (by omega)
 have lm3 : ldq s3 (qadd (some ⟨b, o, none⟩) 0) = some (.map (some r)) := At.one (b1.kp w1 k13 id) hm (by omega)
 have lh2 := (r1.kp w1 k2 id).all (n := 32) (by rw [List.length_map, hH]) (by decide)
 have lh3 := (r1.kp w1 k13 id).all (n := 32) (by rw [List.length_map, hH]) (by decide)
 have hM2 := hM1.kp w1 k2 id
 have hM3 := hM1.kp w1 k13 id
 refine run1 ?_
 refine Wd.val rfl (Xv.nilC rfl) rfl (Nat.le_refl _) (run1 ?_)
 refine Wd.read rfl (Xv.ld rfl rfl rfl lm3) rfl eqV_mp ⟨Xv.ld rfl rfl rfl lm3, ⟨Xv.ld rfl rfl rfl lm2, trivial⟩⟩ ?_
 refine Wd.read rfl (Xv.ldN rfl rfl rfl lh3) rfl eqV_h ⟨Xv.ldN rfl rfl rfl lh3, ⟨Xv.ldN rfl rfl rfl lh2, trivial⟩⟩ ?_
 have lk : ∀ {X : Fx} {env : Env} {x y : Operand} {t : St}, Mp t r M → X.B = B → ev env x = some (.map (some r)) → ev env y = some (hsh H) → Xv X (.lookup 67 x y false) env t (.slice none 0 0) t := fun {X env x y t} hM hB hx hy => by
  have := Xv.look (X := X) (ok := false) (t := 67) (key := 23) (elt := 72) (e := 5) (z := .slice none 0 0) (by rw [hB]; rfl) (by show HT X.B.P _ _; rw [hB]; exact HH) (by show zeroOf X.B.P _ = _; rw [hB]; exact zsl) rfl hx hy hH hM
  rw [hno] at this; exact this
 refine Wd.read rfl (lk hM3 rfl rfl rfl) rfl eqV_slice ⟨lk hM3 rfl rfl rfl, ⟨lk hM2 rfl rfl rfl, trivial⟩⟩ (run1 ?_)
 refine mk_gen (M := fun s' => Wd _ _ _ _ _ _ s' _) fun s4 q4 n4 k4 => ?_
 have w4 : Wf s4 := k4.wf w3
 refine Wd.call rfl (Xc.call ok66 rfl) rfl ((insert0_ok w4 q4.ats rfl).mono ?_)
 rintro v s5 ⟨ql, cl, γl, rfl, gl, ll, k5⟩
 refine ⟨k5.le, ?_⟩
 have w5 : Wf s5 := k5.wf w4
 have k35 : Kn s3 s5 := k4.call k5
 have k15 : Kn s1 s5 := k13.call k35
 have lm5 : ldq s5 (qadd (some ⟨b, o, none⟩) 0) = some (.map (some r)) := At.one (b1.kp w1 k15 id) hm (by omega)
 have lh5 := (r1.kp w1 k15 id).all (n := 32) (by rw [List.length_map, hH]) (by decide)
 refine run1 ?_
 refine Wd.val rfl (Xv.nilC rfl) rfl (Nat.le_refl _) (run1 ?_)
 refine Wd.read rfl (Xv.ld rfl rfl rfl lm5) rfl eqV_mp ⟨Xv.ld rfl rfl rfl lm5, ⟨Xv.ld rfl rfl rfl lm3, ⟨Xv.ld rfl rfl rfl lm2, trivial⟩⟩⟩ ?_
 refine Wd.read rfl (Xv.ldN rfl rfl rfl lh5) rfl eqV_h ⟨Xv.ldN rfl rfl rfl lh5, ⟨Xv.ldN rfl rfl rfl lh3, ⟨Xv.ldN rfl rfl rfl lh2, trivial⟩⟩⟩ ?_
 refine Wd.put (h := H) rfl rfl rfl HH rfl rfl rfl hH (hM1.kp w1 k15 id) fun s6 m6 n6 k6 => ?_
 have w6 : Wf s6 := k6.wf w5
 have b6 : Rw s6 b l γ := (b1.kp w1 k15 id).kp w5 k6 (Ne.symm hr)
 have ln6 : ldq s6 (qadd (some ⟨b, o, none⟩) 1) = some (nI k) := At.one b6 hn rfl
 have ho : o + 1 < l.length := (List.getElem?_eq_some_iff.1 hn).1
 refine run1 ?_
 refine Wo.val rfl (Xv.nilC rfl) rfl (run1 ?_)
 refine Wo.val rfl (Xv.nilC rfl) rfl (run1 ?_)
 refine Wo.st rfl rfl rfl rfl rfl rfl rfl (by intro v hv; rw [List.mem_singleton.1 hv]; rfl) b6 (by show o + 1 + 1 ≤ _; omega) fun s7 r7 n7 k7 => ?_
 rw [lov_one ho] at r7
 refine run1 ?_
 have g3 : s.nx ≤ γa := Nat.le_trans k1.le (Nat.le_trans k2.le la)
 have hrs := hM1.lt w1
 have hgs := b1.lt w1
 have hrs0 := hM.lt w0
 have hgs0 := hb.lt w0
 have ga6 : Sl s6 qa (A.map nB) γa := ((ga.sl.kp w3 k35 id).kp w5 k6 (by omega))
 have gl6 : Sl s6 ql [.slice qa A.length ca] γl := gl.sl.kp w5 k6 (by have := k4.le; have := k3.le; have := k2.le; have := k1.le; omega)
 refine Lv.nrm rfl ⟨ql, cl, qa, ca, γl, γa, m6.kp w6 k7 hr, r7, gl6.kp w6 k7 (by have := k4.le; have := k3.le; have := k2.le; have := k1.le; omega), (by have := k4.le; have := k3.le; have := k2.le; have := k1.le; omega), ga6.kp w6 k7 (by omega), g3, ?_⟩
 have k05 : Kn s s5 := k1.call k15
 exact ((k05.w).trans (k6.mono fun c h => .inr h)).trans (k7.mono fun c h => .inl h)
end Go.Proofs.YtcnhinnpieehoaaGreatDoor
namespace Go.Sy
open Go Go.Ev
theorem Wo.dfr {X : Fx} {env : Env} {df : List Deferred} {s : St} {Q : Post} {all os : List Oper} {ty : TypeId} {pos : String} {af : Array Edge} {g : Option (Nat × Bool)} {f : FuncId} {args : Array Operand} {ts : Array TypeId} {vs : List Value} (hg : wantsE all env g = some true) (hrd : X.rd = none) (ha : evs env args.toList = some vs)
  (k : Wo X all os env (⟨.fn (.func f) #[], ⟨vs⟩⟩ :: df) s Q) : Wo X all (⟨none, .defer ⟨.value (.func f), args, ts⟩, ty, pos, af, g⟩ :: os) env df s Q := by
 constructor; intro tm hf
 have hx : exec X.P (.defer ⟨.value (.func f), args, ts⟩) tm s = .ok (.defer ⟨.fn (.func f) #[], ⟨vs⟩⟩) s := by
  show Re.ok (.defer ⟨.fn (.func f) #[], ⟨appO [] (opds tm args.toList)⟩⟩) s = _
  rw [evs_opds hf ha, appO_eq, List.nil_append]
 have ho : ∀ rec, oper X.P rec X.rd all ⟨none, .defer ⟨.value (.func f), args, ts⟩, ty, pos, af, g⟩ (.mk X.nt tm df) s = .ok (.mk X.nt tm (⟨.fn (.func f) #[], ⟨vs⟩⟩ :: df)) s := fun rec => by
  unfold oper
  simp only [wants_ok hf hg, hx, after, hrd]
  rfl
 obtain ⟨e, env', tm', df', s2, k1, k2, k3⟩ := (k).w tm hf
 exact ⟨e, env', tm', df', s2, k1.mono fun m a => by dsimp only at a; show asN (thenO (oper _ _ _ _ _ _ _) _) = _; rw [ho]; exact a, k2, k3⟩
theorem Cl.toLate {B : Bx} {f : FuncId} {args : List Value} {s : St} {Q : Value → St → Prop} (hk : B.hook f = none) (h : Cl B (.call f args) s Q) : Cl B (.late f args) s Q := by
 obtain ⟨v, s', h1, h2⟩ := h
 refine ⟨v, s', h1.mono fun m hm => ?_, h2⟩
 cases m with
 | zero => cases hm
 | succ m =>
  have hm' : (match B.hook f with | some h => orElse (h args s) (Ev.enter B.P (run B.P B.hook m) f args) s | none => Ev.enter B.P (run B.P B.hook m) f args s) = .ok v s' := hm
  rw [hk] at hm'
  exact hm'
theorem Lv.retD {B : Bx} {rs : List ResultVar} {Q : Value → St → Prop} {env : Env} {df : List Deferred} {s : St} (hl : df.length ≤ 100) (h : Dfr B df s fun s => ∃ vs, resE B.P env s rs = some vs ∧ Q (rv vs) s) : Lv B rs Q .ret env df s := ⟨⟨hl, h⟩⟩
end Go.Sy
namespace Go.Proofs.YtcnhinnpieehoaaGreatDoor
open Go Go.Ev Go.Sy
set_option maxRecDepth 100000
variable {s : St} {p γ δ n c : Nat} {q : Option Addr} {S M A D O R : List Nat} {nb cb r1 n1 r2 n2 r3 n3 : Nat}
theorem code_new {b : Nat} {M : MpE} {H : List Nat}  (w0 : Wf s) (_hT : TabAt s) (hb : Rw s b (bkT nb cb S (bl 0 r1 n1 r2 n2 r3 n3)) γ) (hM : Mp s r2 M) (hr : r2 ≠ γ) (hS : S.length = 32) (hSb : ∀ x ∈ S, x < 256) (hq : At s q (A.map nB)) (hA : ∀ x ∈ A, x < 256) (hc : Cap A.length c 1) (hl : A.length < 2 ^ 40) (hcb : cb ≤ 256) (hH : H = cutOf (hmc S A) cb) (hn2 : n2 < 2 ^ 60) (hno : mget H M = none) (hTk : ∀ s', Kp (fun c => c = γ) s s' → TabAt s') (hqg : ∀ δ, Sl s q (A.map nB) δ → δ ≠ γ ∧ δ ≠ r2) :
  Cl B (.call 19 [.pointer (some ⟨b, 0, none⟩), .slice q A.length c]) s fun v s' => v = hsh H ∧ ∃ ql cl qa ca γl γa, Rw s' b (bkT nb cb S (bl 0 r1 n1 r2 (n2 + 1) r3 n3)) γ ∧ Mp s' r2 (mput H (.slice ql 1 cl) M) ∧ Sl s' ql [.slice qa A.length ca] γl ∧ s.nx ≤ γl ∧ Sl s' qa (A.map nB) γa ∧ s.nx ≤ γa ∧ Kp (fun c => c = γ ∨ c = r2) s s' := by
 have hHl : H.length = 32 := by rw [hH]; exact ctN_length.trans hmc_length
 refine Cl.enter Tryz.f19 fn19 rfl rfl rfl ?_
 have gd : good (some ⟨b, 0, none⟩) := good_b
 refine run1 ?_
 refine mkO (cs := (List.replicate 32 0).map nB) fun s1 z1 m1 k1 => ?_
 have w1 : Wf s1 := k1.wf w0
 have b1 := hb.kp w0 k1 id
 have hbl := hb.lt w0
 have hrl := hM.lt w0
 refine Wo.val rfl (Xv.pEq rfl rfl rfl) rfl (run1 ?_)
 refine Wo.val rfl (Xv.nilC rfl) rfl (run1 ?_)
 refine Wo.call rfl (Xc.call ok24 rfl) rfl ((lock_ok (o := 34) w1 b1 (by rw [show 34 = 34 + 0 from rfl, bkT_at hS]; rfl)).mono ?_)
 rintro v s2 ⟨b2, m2, k2⟩
 rw [show lov (bkT nb cb S (bl 0 r1 n1 r2 n2 r3 n3)) 34 [Value.int .i32 1] = bkT nb cb S (bl 1 r1 n1 r2 n2 r3 n3) from bkT_set (i := 0) hS (show 0 < 8 by decide)] at b2
 have w2 : Wf s2 := k2.wf w1
 refine run1 ?_
 refine Wo.val rfl (Xv.nilC rfl) rfl (run1 ?_)
 refine Wo.dfr rfl rfl rfl ?_
 refine run1 ?_
 have k02 : Kp (fun c => c = γ) s s2 := (k1.w).trans k2
 have z2 := z1.kp w1 k2 (by omega)
 obtain ⟨δ, d1, d2⟩ := hq.sl
 have dlt := d2 w0
 have hδ := (hqg δ d1).1
 have q2 : At s2 q (A.map nB) := (d1.kp w0 k02 hδ).at
 refine Wo.call rfl (Xc.call ok40 rfl) rfl ((codeOf_ok w2 (hTk s2 k02) b2 hS hSb q2 hA hc (by omega) hcb).mono ?_)
 rintro v s3 ⟨rfl, k3⟩
 rw [← hH]
 have w3 : Wf s3 := k3.wf w2
 refine run1 ?_
 refine mkO (cs := (List.replicate 32 0).map nB) fun s4 z4 m4 k4 => ?_
 have w4 : Wf s4 := k4.wf w3
 refine Wo.st rfl rfl rfl rfl rfl rfl (by rw [List.length_map, hHl]) one_nB z4 (by rw [List.length_map, List.length_replicate]; decide) fun s5 z5 m5 k5 => ?_
 rw [lov_all (by rw [List.length_map, List.length_map, hHl, List.length_replicate])] at z5
 have k25 : Kn s2 s5 := k3.call (k4.app k5 (Nat.le_refl _))
 have w5 : Wf s5 := k25.wf w2
 have k05 : Kp (fun c => c = γ) s s5 := k02.trans (k25.w)
 have l5 := z5.all (n := 32) (by rw [List.length_map, hHl]) (by decide)
 have b5 := b2.kp w2 k25 id
 have M5 : Mp s5 r2 M := hM.kp w0 k05 hr
 refine run1 ?_
 refine W.dr [(0, .none, 0), (1, .none, 1), (2, .none, 3), (3, .reads, 0), (4, .none, 0), (5, .acts, 31)] (by kernel_rfl) rfl (run1 ?_)
 refine Wd.val rfl (Xv.nilC rfl) rfl (Nat.le_refl _) (run1 ?_)
 refine Wd.read rfl (Xv.ldN rfl rfl rfl l5) rfl eqV_h ⟨Xv.ldN rfl rfl rfl l5, trivial⟩ (run1 ?_)
 refine Wd.call rfl (Xc.call ok41 rfl) rfl ((add_new (o := 38) (k := n2) w5 b5 (by rw [show 38 = 34 + 4 from rfl, bkT_at hS]; rfl) (by rw [show 38 + 1 = 34 + 5 from rfl, bkT_at hS]; rfl) M5 hr hHl hno (d1.kp w0 k05 hδ).at hl hn2).mono ?_)
 rintro v s6 ⟨ql, cl, qa, ca, γl, γa, M6, b6, L6, gL, A6, gA, k6⟩
 refine ⟨k6.le, ?_⟩
 have b6 : Rw s6 b (bkT nb cb S (bl 1 r1 n1 r2 (n2 + 1) r3 n3)) γ := by
  have e : (bkT nb cb S (bl 1 r1 n1 r2 n2 r3 n3)).set 39 (nI (n2 + 1)) = bkT nb cb S (bl 1 r1 n1 r2 (n2 + 1) r3 n3) := by
   rw [← lov_one (by rw [bkT_len hS]; exact (show 39 < 34 + 8 by decide))]
   exact bkT_set (i := 5) hS (show 5 < 8 by decide)
  rw [← e]; exact b6
 have h25 := k25.le
 have h02 := k02.le
 have h2 := k2.le
 have h1 := k1.le
 have w6 : Wf s6 := k6.wf w5
 have z6 : Rw s6 s3.nx (H.map nB) s3.nx := z5.kp w5 k6 (by have := k2.le; have := k3.le; have := k1.le; omega)
 have l6 := z6.all (n := 32) (by rw [List.length_map, hHl]) (by decide)
 have z26 : Rw s6 s.nx ((List.replicate 32 0).map nB) s.nx := (z2.kp w2 k25 id).kp w5 k6 (by omega)
 refine run1 ?_
 refine Wo.st rfl rfl rfl rfl rfl rfl (by rw [List.length_map, hHl]) one_nB z26 (by rw [List.length_map, List.length_replicate]; decide) fun s7 z7 m7 k7 => ?_
 rw [lov_all (by rw [List.length_map, List.length_map, hHl, List.length_replicate])] at z7
 have w7 : Wf s7 := k7.wf w6
 refine run1 ?_
 refine Lv.retD (show 1 ≤ 100 by decide) ⟨by kernel_rfl, Cl.toLate rfl ((unlock_ok (o := 34) (b6.kp w6 k7 (by omega)) (by rw [show 34 = 34 + 0 from rfl, bkT_at hS]; rfl)).mono ?_)⟩
 rintro v s8 ⟨b8, m8, k8⟩
 rw [show lov (bkT nb cb S (bl 1 r1 n1 r2 (n2 + 1) r3 n3)) 34 [Value.int .i32 0] = bkT nb cb S (bl 0 r1 n1 r2 (n2 + 1) r3 n3) from bkT_set (i := 0) hS (show 0 < 8 by decide)] at b8
 have z8 := z7.kp w7 k8 (by omega)
 have hcl := cell_at (B := B) (t := 23) (n := 32) (k := .ar 32 5) rfl rfl z8 (by rw [List.length_map, hHl]) rfl
 refine ⟨[hsh H], ?_, rfl, ql, cl, qa, ca, γl, γa, b8, (M6.kp w6 k7 (by omega)).kp w7 k8 hr, (L6.kp w6 k7 (by omega)).kp w7 k8 (by omega), by omega, (A6.kp w6 k7 (by omega)).kp w7 k8 (by omega), by omega, ?_⟩
 rotate_left
 ·have k08 : Kp (fun c => c = γ ∨ c = r2 ∨ s.nx ≤ c) s s8 := ((((k05.mono fun c h => .inl h).trans (k6.mono fun c h => by rcases h with h | h; exact .inl h; exact .inr (.inl h))).trans (k7.mono fun c h => .inr (.inr (by omega)))).trans (k8.mono fun c h => .inl h))
  exact ⟨k08.le, k08.wf, fun w b o hb hc => k08.kp w b o hb fun h => by
   rcases h with h | h | h
   ·exact hc (.inl h)
   ·exact hc (.inr h)
   ·exact absurd (w.lt b o hb).2 (by omega)⟩
 show (match cell1 B.P (.pointer (some ⟨s.nx, 0, none⟩)) 23 s8, some [] with | some v, some vs => some (v :: vs) | _, _ => none) = _
 rw [hcl]; rfl
end Go.Proofs.YtcnhinnpieehoaaGreatDoor
