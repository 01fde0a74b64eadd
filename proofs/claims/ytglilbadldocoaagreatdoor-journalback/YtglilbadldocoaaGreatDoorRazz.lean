import Derived.Test.YtglilbadldocoaaGreatDoorMbzz
import Derived.Test.YtglilbadldocoaaGreatDoorDczz
namespace Go.Sy
open Go Go.Ev
theorem lov_nil {l : List Value} {o : Nat} : lov l o [] = l := by
 unfold lov
 rw [List.nil_append, List.length_nil, Nat.add_zero, List.take_append_drop]
theorem lov_lov {l a b : List Value} {o : Nat} (h : o + a.length + b.length ≤ l.length) : lov (lov l (o + a.length) b) o a = lov l o (a ++ b) := by
 have e : l = l.take o ++ ((l.drop o).take a.length ++ l.drop (o + a.length)) := by rw [← List.drop_drop, List.take_append_drop, List.take_append_drop]
 have e1 : lov l (o + a.length) b = l.take o ++ ((l.drop o).take a.length ++ (b ++ l.drop (o + a.length + b.length))) := by
  unfold lov
  have : l.take (o + a.length) = l.take o ++ (l.drop o).take a.length := by rw [List.take_add]
  rw [this, List.append_assoc]
 rw [e1, lov_app (a := l.take o) (b := (l.drop o).take a.length) (by rw [List.length_take]; omega) (by rw [List.length_take, List.length_drop]; omega)]
 unfold lov
 rw [List.length_append, List.append_assoc, Nat.add_assoc]
section
variable {X : Fx} {env : Env} {s : St}
theorem Xv.slLs {t t0 n0 e t1 size : Nat} {z0 z : Option (List Value)} {ke : Sh} {x y : Operand} {k : IntKind} {b o n N l : Nat} (ht : tk X.B.T t = some ⟨t0, n0, .sl e, z0⟩) (he : tk X.B.T e = some ⟨t1, size, ke, z⟩) (hx : ev env x = some (.slice (some ⟨b, o, none⟩) n (sure N))) (hy : ev env y = some (.int k (.ofNat l))) (hh : l ≤ n) (hn : n ≤ N) :
  Xv X (.slice t x (some y) none none) env s (.slice (some ⟨b, if N = l then o else o + l * size, none⟩) (n - l) (sure (N - l))) s := fun tm hf => by
 have base : exec X.P (.slice t x (some y) none none) tm s = ofO (slice2 size b o (sure N) l n) s := by
  show xSlice X.P t (opd tm x) (some (opd tm y)) none none s = _
  rw [ev_opd hf hx, ev_opd hf hy]
  unfold xSlice
  simp only [show X.P.underlying t = _ from X.B.un ht, show sizeOfT X.P e = _ from X.B.sz he]
  rfl
 obtain ⟨c1, c2⟩ := cap_sure (n := N)
 rw [base]
 unfold slice2
 rw [c1, c2, Nat.ble_eq_true_of_le hh, Nat.ble_eq_true_of_le hn]
 by_cases e : N = l
 ·rw [show Nat.beq N l = true by rw [e]; exact Nat.beq_refl _, if_pos e]
  show ofO (mkSl b o (n - l) (sure (N - l))) s = _
  rw [mkSl_eq]; rfl
 ·rw [show Nat.beq N l = false by cases hq : Nat.beq N l with | false => rfl | true => exact absurd (Nat.eq_of_beq_eq_true hq) e, if_neg e]
  show ofO (mkSl b (o + l * size) (n - l) (sure (N - l))) s = _
  rw [mkSl_eq]; rfl
end
end Go.Sy
namespace Go.Proofs.YtglilbadldocoaaGreatDoor
open Go Go.Ev Go.Sy
set_option maxRecDepth 100000
variable {s : St} {p γ δ n c m N : Nat} {q : Option Addr} {A D : List Nat} {L : List Value}
def dgs (n : Nat) : List Nat := if n = 0 then [] else dgs (n / 256) ++ [n % 256]
theorem dgs0 : dgs 0 = [] := by rw [dgs]; rfl
theorem dgsN (h : n ≠ 0) : dgs n = dgs (n / 256) ++ [n % 256] := by rw [dgs, if_neg h]
theorem dgs_byte : ∀ {n : Nat}, ∀ x ∈ dgs n, x < 256 := fun {n} => by
 induction n using Nat.strongRecOn with
 | _ n ih =>
  intro x hx
  by_cases h : n = 0
  ·rw [h, dgs0] at hx; cases hx
  ·rw [dgsN h] at hx
   rcases List.mem_append.1 hx with hx | hx
   ·exact ih (n / 256) (by omega) x hx
   ·rw [List.mem_singleton.1 hx]; omega
theorem dgs_len {k : Nat} : ∀ {n : Nat}, n < 256 ^ k → (dgs n).length ≤ k := by
 induction k with
 | zero => intro n h; rw [show n = 0 by simpa using h, dgs0]; exact Nat.le_refl _
 | succ k ih =>
  intro n h
  by_cases h0 : n = 0
  ·rw [h0, dgs0]; exact Nat.zero_le _
  ·rw [dgsN h0, List.length_append]
   have := ih (n := n / 256) (by rw [Nat.pow_succ] at h; omega)
   simp; omega
theorem dgs_pos (h : n ≠ 0) : 0 < (dgs n).length := by rw [dgsN h]; simp
abbrev U (n : Nat) : Value := .int .u64 (.ofNat n)
theorem dcount_ok (hn : n < 2 ^ 62) : Cl B (.call 115 [U n]) s fun v s' => v = nI (dgs n).length ∧ s' = s := by
 refine Cl.enter Tryz.f115 fn115 rfl rfl rfl ?_
 refine run1 ?_
 have hle := dgs_len (k := 8) (n := n) (by omega)
 refine W.loop (α := Nat × Nat) (fun a => [(0, U a.1), (3, nI a.2)]) (fun _ => []) (fun _ => s)
  (fun a => a.1 ≤ n ∧ a.2 + (dgs a.1).length = (dgs n).length) (fun a => a.1) (n, 0) ⟨Nat.le_refl _, Nat.zero_add _⟩ (.cons rfl (.cons rfl .nil)) rfl rfl (by show n < _; omega) ?_
 rintro ⟨a, k⟩ ⟨i1, i2⟩
 simp only at i1 i2
 dsimp only
 by_cases h : 0 < a
 ·rw [dgsN (by omega), List.length_append] at i2
  refine run1 ?_
  refine rnd.n (a / 256, k + 1) ⟨by show a / 256 ≤ n; omega, by have i2' : k + ((dgs (a / 256)).length + 1) = (dgs n).length := i2; show k + 1 + (dgs (a / 256)).length = (dgs n).length; omega⟩ (by show a / 256 < a; omega) (.cons ?_ (.cons rfl .nil)) rfl rfl
  show some (U (Nat.shiftRight a 8)) = some (U (a / 256))
  rw [show Nat.shiftRight a 8 = a / 256 from Nat.shiftRight_eq_div_pow a 8]
 ·refine run1 ?_
  obtain rfl : a = 0 := by omega
  rw [dgs0] at i2
  refine Lv.ret rfl ⟨?_, rfl⟩
  show nI k = _
  rw [← i2]; rfl
def zI (j : Nat) : Value := match j with
 | 0 => .int .i64 (.negSucc 0)
 | i + 1 => nI i
theorem zI_eq {j : Nat} : .int .i64 ((j : Int) - 1) = zI j := by
 cases j with
 | zero => rfl
 | succ i => show Value.int .i64 (((i + 1 : Nat) : Int) - 1) = .int .i64 (Int.ofNat i); rw [show (((i + 1 : Nat) : Int) - 1) = Int.ofNat i by show _ = (i : Int); omega]
theorem dgs_take : ∀ {n : Nat}, ∀ j, j ≤ (dgs n).length → (dgs n).take j = dgs (n / 256 ^ ((dgs n).length - j)) := fun {n} => by
 induction n using Nat.strongRecOn with
 | _ n ih =>
  intro j hj
  by_cases h : n = 0
  ·subst h; rw [dgs0] at hj ⊢; simp [dgs0]
  ·rw [dgsN h, List.length_append] at hj ⊢
   have hl : [n % 256].length = 1 := rfl
   rw [hl] at hj ⊢
   by_cases e : j = (dgs (n / 256)).length + 1
   ·rw [e, Nat.sub_self, Nat.pow_zero, Nat.div_one, List.take_of_length_le (by rw [List.length_append]; exact Nat.le_refl _), ← dgsN h]
   ·rw [List.take_append_of_le_length (by omega), ih (n / 256) (by omega) j (by omega), Nat.div_div_eq_div_mul, ← Nat.pow_succ']
    congr 2; congr 1; omega
theorem dgs_get {j : Nat} (h : j < (dgs n).length) : (dgs n).getD j 0 = n / 256 ^ ((dgs n).length - (j + 1)) % 256 := by
 have h1 := dgs_take (n := n) (j + 1) (by omega)
 have h2 := dgs_take (n := n) j (by omega)
 rw [List.take_succ_eq_append_getElem h, h2] at h1
 have hne : n / 256 ^ ((dgs n).length - (j + 1)) ≠ 0 := fun e => by
  rw [e, dgs0] at h1
  have := congrArg List.length h1
  simp at this
 rw [dgsN hne] at h1
 have := List.append_inj_right' h1 rfl
 rw [List.getD_eq_getElem?_getD, List.getElem?_eq_getElem h]
 simpa using this
theorem rep_flat : ∀ {K : Nat}, (List.replicate K [Value.int .u8 0]).flatten = (List.replicate K 0).map nB
 | 0 => rfl
 | K + 1 => by rw [List.replicate_succ, List.flatten_cons, rep_flat]; rfl
theorem digits_ok (w0 : Wf s) (hn : n < 2 ^ 62) : Cl B (.call 91 [U n]) s fun v s' => ∃ b, v = .slice (some ⟨b, 0, none⟩) (dgs n).length (sure (dgs n).length) ∧ s.nx ≤ b ∧ Rw s' b ((dgs n).map nB) b ∧ Kn s s' := by
 refine Cl.enter Tryz.f91 fn91 rfl rfl rfl ?_
 refine run1 ?_
 refine Wo.call rfl (Xc.call ok115 rfl) rfl ((dcount_ok hn).mono ?_)
 rintro v s' ⟨rfl, e'⟩; rw [e']; clear e' s'
 have hle := dgs_len (k := 8) (n := n) (by omega)
 obtain ⟨K, hK⟩ : ∃ K, K = (dgs n).length := ⟨_, rfl⟩
 rw [← hK] at hle ⊢
 refine Wo.val rfl (Xv.make rfl rfl rfl rfl rfl (Nat.le_refl _) rfl (by omega) (by omega)) rfl ?_
 refine mk_gen (M := fun s' => Wo _ _ _ _ _ s' _) fun s1 r1 n1 k1 => ?_
 have w1 : Wf s1 := k1.wf w0
 have r1' : Rw s1 s.nx ((List.replicate K 0).map nB) s.nx := by
  rw [← rep_flat]; exact r1
 clear r1
 refine run1 ?_
 refine Wo.val rfl (Xv.subZ rfl rfl (by omega) (by omega) rfl) rfl ?_
 rw [show (Value.int .i64 ((K : Int) - ((1 : Nat) : Int))) = zI K from zI_eq]
 refine run1 ?_
 refine W.loop (α := Nat × St) (fun a => [(0, U (n / 256 ^ (K - a.1))), (3, .slice (some ⟨s.nx, 0, none⟩) K (sure K)), (4, zI a.1)]) (fun _ => []) (fun a => a.2)
  (fun a => a.1 ≤ K ∧ Rw a.2 s.nx ((List.replicate a.1 0 ++ (dgs n).drop a.1).map nB) s.nx ∧ Kp (fun c => c = s.nx) s1 a.2) (fun a => a.1) (K, s1) ⟨Nat.le_refl _, ?_, .refl⟩ (.cons ?_ (.cons rfl (.cons rfl .nil))) rfl rfl (by show K < _; omega) ?_
 ·show Rw s1 s.nx ((List.replicate K 0 ++ (dgs n).drop K).map nB) s.nx
  rw [List.drop_of_length_le (by omega), List.append_nil]; exact r1'
 ·show some (U n) = some (U (n / 256 ^ (K - K)))
  rw [Nat.sub_self, Nat.pow_zero, Nat.div_one]
 rintro ⟨j, t0⟩ ⟨i1, i2, i3⟩
 simp only at i1 i2 i3
 dsimp only
 have wt : Wf t0 := i3.wf w1
 cases j with
 | zero =>
  have hneg : ¬ (0 : Int) ≤ Int.negSucc 0 := by decide
  refine run1 ?_
  refine Lv.ret rfl ⟨s.nx, ?_, Nat.le_refl _, ?_, k1.app i3 (Nat.le_refl _)⟩
  ·rfl
  ·rw [List.replicate_zero, List.nil_append, List.drop_zero] at i2; exact i2
 | succ i =>
  have hpos : (0 : Nat) ≤ i := Nat.zero_le _
  have hi : i < K := i1
  have gd : good (some ⟨s.nx, 0, none⟩) := good_b
  show W _ _ [(0, U (n / 256 ^ (K - (i + 1)))), (3, .slice (some ⟨s.nx, 0, none⟩) K (sure K)), (4, nI i)] _ _ _
  refine run1 ?_
  refine Wo.st rfl rfl rfl rfl rfl rfl rfl (by intro v hv; rw [List.mem_singleton.1 hv]; rfl) i2 (by rw [List.length_map, List.length_append, List.length_replicate, List.length_drop]; show 0 + i * 1 + 1 ≤ _; omega) fun t1 q1 m1 g1 => ?_
  have q1' : Rw t1 s.nx ((List.replicate i 0 ++ (dgs n).drop i).map nB) s.nx := by
   have e := lov_app (a := (List.replicate i 0).map nB) (b := [nB 0]) (c := ((dgs n).drop (i + 1)).map nB) (vs := [nB (n / 256 ^ (K - (i + 1)) % 256)]) (o := 0 + i * 1) (by simp) rfl
   have e1 : (List.replicate (i + 1) 0 ++ (dgs n).drop (i + 1)).map nB = (List.replicate i 0).map nB ++ ([nB 0] ++ ((dgs n).drop (i + 1)).map nB) := by
    rw [List.replicate_succ', List.map_append, List.map_append, List.append_assoc]; rfl
   have e2 : (List.replicate i 0 ++ (dgs n).drop i).map nB = (List.replicate i 0).map nB ++ ([nB (n / 256 ^ (K - (i + 1)) % 256)] ++ ((dgs n).drop (i + 1)).map nB) := by
    have hg := dgs_get (n := n) (j := i) (by omega)
    rw [← hK] at hg
    rw [List.drop_eq_getElem_cons (by omega), ← hg, List.getD_eq_getElem?_getD, List.getElem?_eq_getElem (by omega), List.map_append]; rfl
   rw [e2, ← e, ← e1]; exact q1
  refine run1 ?_
  refine Wo.val rfl (Xv.subZ rfl rfl (by omega) (by omega) rfl) rfl ?_
  rw [show (Value.int .i64 ((i : Int) - ((1 : Nat) : Int))) = zI i from zI_eq]
  refine run1 ?_
  refine rnd.n (i, t1) ⟨by show i ≤ K; omega, q1', i3.trans g1⟩ (by show i < i + 1; omega) (.cons ?_ (.cons rfl (.cons rfl .nil))) rfl rfl
  show some (U (Nat.shiftRight (n / 256 ^ (K - (i + 1))) 8)) = some (U (n / 256 ^ (K - i)))
  rw [show Nat.shiftRight (n / 256 ^ (K - (i + 1))) 8 = n / 256 ^ (K - (i + 1)) / 256 from Nat.shiftRight_eq_div_pow _ 8, Nat.div_div_eq_div_mul, ← Nat.pow_succ, show (K - (i + 1)).succ = K - i by omega]
theorem alone_ok (ha : At s q (A.map nB)) (_hl : A.length < 2 ^ 60) : Cl B (.call 87 [.slice q A.length c]) s fun v s' => v = .bool (decide (A.length = 1 ∧ A.getD 0 0 < 128)) ∧ s' = s := by
 refine Cl.enter Tryz.f87 fn87 rfl rfl rfl ?_
 by_cases h : A.length = 1
 ·have hb : Bs s q A := ha
  refine run1 ?_
  refine Lv.ret rfl ⟨?_, rfl⟩
  exact congrArg Value.bool (decide_eq_decide.2 ⟨fun k => ⟨h, k⟩, fun k => k.2⟩)
 ·refine run1 ?_
  refine Lv.ret rfl ⟨?_, rfl⟩
  exact congrArg Value.bool (decide_eq_false fun k => h k.1).symm
def hd (base n : Nat) : List Nat := if n < 56 then [base + n] else (base + 55 + (dgs n).length) :: dgs n
theorem hsize_ok {base : Nat} (hn : n < 2 ^ 40) : Cl B (.call 88 [nI n]) s fun v s' => v = nI (hd base n).length ∧ s' = s := by
 refine Cl.enter Tryz.f88 fn88 rfl rfl rfl ?_
 by_cases h : n < 56
 ·refine run1 ?_
  refine Lv.ret rfl ⟨?_, rfl⟩
  rw [hd, if_pos h]; rfl
 ·refine run1 ?_
  rw [show n.mod 18446744073709551616 = n from Nat.mod_eq_of_lt (by omega)]
  have hle := dgs_len (k := 8) (n := n) (by omega)
  refine Wo.call rfl (Xc.call ok115 rfl) rfl ((dcount_ok (by omega)).mono ?_)
  rintro v s' ⟨rfl, e'⟩; rw [e']; clear e' s'
  refine run1 ?_
  refine Lv.ret rfl ⟨?_, rfl⟩
  show nI (1 + (dgs n).length) = _
  rw [hd, if_neg h, List.length_cons, Nat.add_comm]
theorem wend_ok (_w0 : Wf s) (hr : Rw s p L γ) (hL : L.length = N) (hN : N < 2 ^ 60) (hm : m ≤ N) (ha : At s q (A.map nB)) (hA : A.length ≤ m) :
  Cl B (.call 89 [.slice (some ⟨p, 0, none⟩) m (sure N), .slice q A.length c]) s fun v s' => v = .slice (some ⟨p, 0, none⟩) (m - A.length) (sure N) ∧ Rw s' p (lov L (m - A.length) (A.map nB)) γ ∧ s'.nx = s.nx ∧ Kp (fun c => c = γ) s s' := by
 refine Cl.enter Tryz.f89 fn89 rfl rfl rfl ?_
 refine run1 ?_
 refine Wo.val rfl (Xv.slH rfl rfl rfl rfl (Cap.sure hm) (Nat.sub_le _ _)) rfl (run1 ?_)
 refine Wo.val rfl (Xv.slLs rfl rfl rfl rfl (Nat.sub_le _ _) hm) rfl (run1 ?_)
 have e : m - (m - A.length) = A.length := by omega
 rw [e]
 refine Wo.cpy rfl rfl rfl rfl rfl rfl rfl hr ha (by rw [List.length_map, Nat.mul_one]) one_nB (by show (if N = m - A.length then 0 else 0 + (m - A.length) * 1) + A.length * 1 ≤ L.length; split <;> omega) fun s1 r1 n1 k1 => ?_
 refine run1 ?_
 refine Lv.ret rfl ⟨rfl, ?_, n1, k1⟩
 simp only [Nat.min_self, Nat.mul_one] at r1
 rw [List.take_of_length_le (by rw [List.length_map]; exact Nat.le_refl _)] at r1
 by_cases h : N = m - A.length
 ·have h0 : A = [] := List.length_eq_zero_iff.1 (by omega)
  subst h0
  rw [List.map_nil, lov_nil] at r1
  rw [List.map_nil, lov_nil]; exact r1
 ·rw [if_neg h, Nat.zero_add] at r1; exact r1
theorem hd_pos {base : Nat} : 0 < (hd base n).length := by
 unfold hd; split <;> simp
theorem whead_ok {base : Nat} (hb : base = 128 ∨ base = 192) (w0 : Wf s) (hr : Rw s p L γ) (hL : L.length = N) (hN : N < 2 ^ 60) (hm : m ≤ N) (hn : n < 2 ^ 40) (hA : (hd base n).length ≤ m) :
  Cl B (.call 90 [.slice (some ⟨p, 0, none⟩) m (sure N), nI n, nB base]) s fun v s' => v = .slice (some ⟨p, 0, none⟩) (m - (hd base n).length) (sure N) ∧ Rw s' p (lov L (m - (hd base n).length) ((hd base n).map nB)) γ ∧ Kp (fun c => c = γ) s s' := by
 refine Cl.enter Tryz.f90 fn90 rfl rfl rfl ?_
 have hlt := hr.lt w0
 by_cases h : n < 56
 ·rw [hd, if_pos h] at hA ⊢
  have hA1 : 1 ≤ m := hA
  refine run1 ?_
  have e : (base + n.mod 256).mod 256 = base + n := by
   show (base + n % 256) % 256 = _
   omega
  refine mk_gen (M := fun s' => Wo _ _ _ _ _ s' _) fun s1 r1 n1 k1 => ?_
  have r1' : Rw s1 s.nx ([base + n].map nB) s.nx := by
   rw [← e]; exact r1
  have w1 : Wf s1 := k1.wf w0
  refine Wo.call rfl (Xc.call ok89 rfl) rfl ((wend_ok (A := [base + n]) w1 (hr.kp w0 k1 id) hL hN hm r1'.ats hA1).mono ?_)
  rintro v s2 ⟨rfl, r2, n2, k2⟩
  refine run1 ?_
  exact Lv.ret rfl ⟨rfl, r2, (k1.w).trans k2⟩
 ·rw [hd, if_neg h] at hA ⊢
  rw [List.length_cons] at hA ⊢
  have hle := dgs_len (k := 8) (n := n) (by omega)
  have hdp := dgs_pos (n := n) (by omega)
  refine run1 ?_
  rw [show n.mod 18446744073709551616 = n from Nat.mod_eq_of_lt (by omega)]
  refine Wo.call rfl (Xc.call ok91 rfl) rfl ((digits_ok w0 (by omega)).mono ?_)
  rintro v s1 ⟨b, rfl, hb1, r1, k1⟩
  have w1 : Wf s1 := k1.wf w0
  refine run1 ?_
  refine Wo.call rfl (Xc.call ok89 rfl) rfl ((wend_ok (A := dgs n) w1 (hr.kp w0 k1 id) hL hN hm r1.ats (by omega)).mono ?_)
  rintro v s2 ⟨rfl, r2, n2, k2⟩
  have w2 : Wf s2 := k2.wf w1
  refine run1 ?_
  refine Wo.val rfl (Xv.ar (r := base + 55) rfl rfl rfl (by rcases hb with rfl | rfl <;> rfl)) rfl (run1 ?_)
  have e : (base + 55 + (dgs n).length.mod 256).mod 256 = base + 55 + (dgs n).length := by
   show (base + 55 + (dgs n).length % 256) % 256 = _
   omega
  refine mk_gen (M := fun s' => Wo _ _ _ _ _ s' _) fun s3 r3 n3 k3 => ?_
  have r3' : Rw s3 s2.nx ([base + 55 + (dgs n).length].map nB) s2.nx := by
   rw [← e]; exact r3
  have w3 : Wf s3 := k3.wf w2
  have l2 : (lov L (m - (dgs n).length) ((dgs n).map nB)).length = N := by rw [lov_length (by rw [List.length_map]; omega), hL]
  refine Wo.call rfl (Xc.call ok89 rfl) rfl ((wend_ok (A := [base + 55 + (dgs n).length]) w3 (r2.kp w2 k3 id) l2 hN (by omega) r3'.ats (by show 1 ≤ _; omega)).mono ?_)
  rintro v s4 ⟨rfl, r4, n4, k4⟩
  refine run1 ?_
  have e2 : m - (dgs n).length - [base + 55 + (dgs n).length].length = m - ((dgs n).length + 1) := by show m - (dgs n).length - 1 = _; omega
  rw [e2] at r4 ⊢
  refine Lv.ret rfl ⟨rfl, ?_, (((k1.w).trans k2).trans (k3.w)).trans k4⟩
  have e3 := lov_lov (l := L) (a := [base + 55 + (dgs n).length].map nB) (b := (dgs n).map nB) (o := m - ((dgs n).length + 1)) (by rw [List.length_map, List.length_map]; show m - ((dgs n).length + 1) + 1 + _ ≤ _; omega)
  rw [show m - ((dgs n).length + 1) + ([base + 55 + (dgs n).length].map nB).length = m - (dgs n).length by show m - ((dgs n).length + 1) + 1 = _; omega] at e3
  rw [e3] at r4
  exact r4
end Go.Proofs.YtglilbadldocoaaGreatDoor
