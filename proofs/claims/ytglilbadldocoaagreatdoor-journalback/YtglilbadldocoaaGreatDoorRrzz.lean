import Derived.Test.YtglilbadldocoaaGreatDoorCpzz
import Derived.Test.YtglilbadldocoaaGreatDoorCwzz
import Derived.Test.YtglilbadldocoaaGreatDoorNItmzz
namespace Go.Sy
open Go Go.Ev
theorem slice2_ok {s : St} {size b o c l h : Nat} {cs : List Value} (hc : h ≤ capOf c) (hl : l ≤ h) (hs : capSure c = true ∨ esOf c = size) (hA : At s (some ⟨b, o, none⟩) cs) (hh : h * size ≤ cs.length) :
  ∃ q' c', slice2 size b o c l h = some (.slice q' (h - l) c') ∧ At s q' ((cs.drop (l * size)).take ((h - l) * size)) := by
 have mk : ∀ o m d : Nat, mkSl b o m d = some (.slice (some ⟨b, o, none⟩) m d) := fun o m d => by unfold mkSl; simp only [fN_eq]
 have e : (h - l) * size = h * size - l * size := Nat.sub_mul ..
 have hls : l * size ≤ h * size := Nat.mul_le_mul_right _ hl
 have hd : At s (some ⟨b, o + l * size, none⟩) ((cs.drop (l * size)).take ((h - l) * size)) := (hA.drop (by omega)).take (by rw [List.length_drop]; omega)
 unfold slice2
 rw [Nat.ble_eq_true_of_le hl, Nat.ble_eq_true_of_le hc]
 by_cases hz : capOf c = l
 ·have h0 : h - l = 0 := by omega
  have hnil : (cs.drop (l * size)).take ((h - l) * size) = [] := by rw [h0, Nat.zero_mul, List.take_zero]
  cases hcs : capSure c with
  | true =>
   refine ⟨some ⟨b, o, none⟩, sure (capOf c - l), ?_, ?_⟩
   ·show cond (Nat.beq (capOf c) l) _ _ = _
    rw [hz, Nat.beq_refl]
    exact mk _ _ _
   ·rw [hnil]
    have := hA.take (n := 0) (Nat.zero_le _)
    rwa [List.take_zero] at this
  | false =>
   by_cases hl0 : l = 0
   ·subst hl0
    refine ⟨some ⟨b, o, none⟩, c, mk _ _ _, ?_⟩
    rw [hnil]
    have := hA.take (n := 0) (Nat.zero_le _)
    rwa [List.take_zero] at this
   ·refine ⟨some ⟨b, 0, some 0⟩, 0, ?_, .inl ⟨hnil, .inr ⟨_, _, _, rfl⟩⟩⟩
    show cond (Nat.beq l 0) _ (cond (Nat.blt l (capOf c)) _ _) = _
    rw [beq_dec, decide_eq_false hl0, blt_dec, decide_eq_false (by omega), h0]
    rfl
 ·cases hcs : capSure c with
  | true =>
   refine ⟨_, sure (capOf c - l), ?_, hd⟩
   show cond (Nat.beq (capOf c) l) _ _ = _
   rw [beq_dec, decide_eq_false hz]
   exact mk _ _ _
  | false =>
   by_cases hl0 : l = 0
   ·subst hl0
    rw [Nat.zero_mul, Nat.add_zero] at hd
    rw [Nat.zero_mul]
    exact ⟨_, c, mk _ _ _, hd⟩
   ·rw [hcs] at hs
    have hes : esOf c = size := hs.resolve_left (by simp)
    refine ⟨_, least (capOf c - l) size, ?_, hd⟩
    show cond (Nat.beq l 0) _ (cond (Nat.blt l (capOf c)) _ _) = _
    rw [beq_dec, decide_eq_false hl0, blt_dec, decide_eq_true (by omega), hes]
    show cond (Nat.beq size size) _ _ = _
    rw [Nat.beq_refl]
    exact mk _ _ _
section
variable {X : Fx} {env : Env} {df : List Deferred} {s : St} {Q : Post} {all os : List Oper} {d : Option Nat} {ty : TypeId} {pos : String} {af : Array Edge} {g : Option (Nat × Bool)}
theorem Wo.slLH {t t0 n0 e t1 size : Nat} {z0 z : Option (List Value)} {ke : Sh} {x y y' : Operand} {k k' : IntKind} {b o n c l h : Nat} {cs : List Value} (hgd : wantsE all env g = some true) (ht : tk X.B.T t = some ⟨t0, n0, .sl e, z0⟩) (he : tk X.B.T e = some ⟨t1, size, ke, z⟩) (hd : dOk X d = true) (hx : ev env x = some (.slice (some ⟨b, o, none⟩) n c)) (hy : ev env y = some (.int k (.ofNat l))) (hy' : ev env y' = some (.int k' (.ofNat h)))
  (hc : h ≤ capOf c) (hl : l ≤ h) (hs : capSure c = true ∨ esOf c = size) (hA : At s (some ⟨b, o, none⟩) cs) (hh : h * size ≤ cs.length)
  (K : ∀ q' c', At s q' ((cs.drop (l * size)).take ((h - l) * size)) → Wo X all os (up d (.slice q' (h - l) c') env) df s Q) : Wo X all (⟨d, .slice t x (some y) (some y') none, ty, pos, af, g⟩ :: os) env df s Q := by
 obtain ⟨q', c', h1, h2⟩ := slice2_ok hc hl hs hA hh
 refine Wo.val hgd (fun tm hf => ?_) hd (K q' c' h2)
 show xSlice X.P t (opd tm x) (some (opd tm y)) (some (opd tm y')) none s = _
 rw [ev_opd hf hx, ev_opd hf hy, ev_opd hf hy']
 unfold xSlice
 simp only [show X.P.underlying t = _ from X.B.un ht, show sizeOfT X.P e = _ from X.B.sz he]
 show ofO (slice2 size b o c l h) s = _
 rw [h1]; rfl
def Rm (c N size : Nat) : Prop := 0 < N ∧ N ≤ capOf c ∧ (capSure c = true ∨ esOf c = size)
theorem Wo.slH0 {t t0 n0 e t1 size : Nat} {z0 z : Option (List Value)} {ke : Sh} {x y' : Operand} {k' : IntKind} {b o n c h N : Nat} (hgd : wantsE all env g = some true) (ht : tk X.B.T t = some ⟨t0, n0, .sl e, z0⟩) (he : tk X.B.T e = some ⟨t1, size, ke, z⟩) (hd : dOk X d = true) (hx : ev env x = some (.slice (some ⟨b, o, none⟩) n c)) (hy' : ev env y' = some (.int k' (.ofNat h)))
  (hc : Rm c N size) (hh : h ≤ N)
  (K : ∀ c', Rm c' N size → Wo X all os (up d (.slice (some ⟨b, o, none⟩) h c') env) df s Q) : Wo X all (⟨d, .slice t x none (some y') none, ty, pos, af, g⟩ :: os) env df s Q := by
 have mk : ∀ o m d : Nat, mkSl b o m d = some (.slice (some ⟨b, o, none⟩) m d) := fun o m d => by unfold mkSl; simp only [fN_eq]
 have key : ∃ c', slice2 size b o c 0 h = some (.slice (some ⟨b, o, none⟩) h c') ∧ Rm c' N size := by
  obtain ⟨r1, r2, r3⟩ := hc
  unfold slice2
  rw [Nat.ble_eq_true_of_le (Nat.zero_le _), Nat.ble_eq_true_of_le (Nat.le_trans hh r2)]
  cases hcs : capSure c with
  | false => exact ⟨c, mk _ _ _, r1, r2, r3⟩
  | true =>
   refine ⟨sure (capOf c - 0), ?_, r1, by rw [cap_sure.1]; exact r2, .inl cap_sure.2⟩
   show cond (Nat.beq (capOf c) 0) _ _ = _
   rw [beq_dec, decide_eq_false (by omega)]
   show mkSl b (o + 0 * size) (h - 0) _ = _
   rw [mk, Nat.zero_mul]; rfl
 obtain ⟨c', h1, h2⟩ := key
 refine Wo.val hgd (fun tm hf => ?_) hd (K c' h2)
 show xSlice X.P t (opd tm x) none (some (opd tm y')) none s = _
 rw [ev_opd hf hx, ev_opd hf hy']
 unfold xSlice
 simp only [show X.P.underlying t = _ from X.B.un ht, show sizeOfT X.P e = _ from X.B.sz he]
 show ofO (slice2 size b o c 0 h) s = _
 rw [h1]; rfl
end
end Go.Sy
namespace Go.Proofs.YtglilbadldocoaaGreatDoor
open Go Go.Ev Go.Sy
set_option maxRecDepth 100000
variable {s s0 : St} {p γ δ n c m N d : Nat} {q : Option Addr} {A D F : List Nat} {L cs : List Value}
theorem Xv.subB {X : Fx} {env : Env} {s : St} {t t' : TypeId} {x y : Operand} {a b : Nat} (hx : ev env x = some (nB a)) (hy : ev env y = some (nB b)) (hb : b ≤ a) (h : a < 256) : Xv X (.binOp .sub t x y t') env s (nB (a - b)) s :=
 Xv.ar hx hy rfl (by
  show subN .u8 a b = _
  unfold subN
  rw [show Nat.ble b a = true from Nat.ble_eq_true_of_le hb]
  exact congrArg some (Nat.mod_eq_of_lt (show a - b < 256 by omega)))
theorem num_fold {A : List Nat} : ∀ {n : Nat}, A.foldl (fun n x => n * 256 + x) n = n * 256 ^ A.length + Nz.num A := by
 induction A with
 | nil => intro n; simp [Nz.num]
 | cons a A ih =>
  intro n
  have h1 := ih (n := n * 256 + a)
  have h2 := ih (n := 0 * 256 + a)
  show List.foldl _ (n * 256 + a) A = n * 256 ^ (A.length + 1) + List.foldl _ (0 * 256 + a) A
  rw [h1, h2, Nat.pow_succ, Nat.add_mul, Nat.zero_mul, Nat.zero_add, Nat.mul_assoc, Nat.mul_comm 256]
  omega
theorem num_lt : ∀ {A : List Nat}, (∀ x ∈ A, x < 256) → Nz.num A < 256 ^ A.length := by
 intro A
 induction A with
 | nil => intro _; exact Nat.one_pos
 | cons a A ih =>
  intro hA
  have h1 := ih fun x hx => hA x (List.mem_cons_of_mem _ hx)
  have h2 := hA a List.mem_cons_self
  show List.foldl _ (0 * 256 + a) A < _
  rw [num_fold, Nat.zero_mul, Nat.zero_add, List.length_cons, Nat.pow_succ]
  have := Nat.mul_le_mul_right (256 ^ A.length) (Nat.le_of_lt_succ h2)
  rw [Nat.mul_comm _ 256]
  omega
theorem num_take {A : List Nat} {i : Nat} (hi : i < A.length) : Nz.num (A.take (i + 1)) = Nz.num (A.take i) * 256 + A.getD i 0 := by
 rw [List.take_succ_eq_append_getElem hi, Nz.num_app1, List.getD_eq_getElem?_getD, List.getElem?_eq_getElem hi]; rfl
theorem mem_getD {A : List Nat} (hA : ∀ x ∈ A, x < 256) (i : Nat) : A.getD i 0 < 256 := by
 rw [List.getD_eq_getElem?_getD]
 cases h : A[i]? with
 | none => decide
 | some x => exact hA x (List.mem_of_getElem? h)
theorem num_ok (h : At s q (A.map nB)) (hA : ∀ x ∈ A, x < 256) (hl : A.length ≤ 8) : Cl B (.call 125 [.slice q A.length c]) s fun v s' => v = U (Nz.num A) ∧ s' = s := by
 refine Cl.enter Tryz.f125 fn125 rfl rfl rfl ?_
 refine run1 ?_
 refine W.loop (α := Nat) (fun a => [(3, U (Nz.num (A.take a))), (6, .slice q A.length c), (7, nI A.length), (8, nI a)]) (fun _ => []) (fun _ => s)
  (fun a => a ≤ A.length) (fun a => A.length - a) 0 (Nat.zero_le _) (.cons rfl (.cons rfl (.cons rfl (.cons rfl .nil)))) rfl rfl (by show A.length - 0 < _; omega) ?_
 intro i hi
 have hb : Bs s q A := h
 by_cases hlt : i < A.length
 ·refine run1 ?_
  refine rnd.n (i + 1) hlt (by show A.length - (i + 1) < A.length - i; omega) (.cons ?_ (.cons rfl (.cons rfl (.cons rfl .nil)))) rfl rfl
  have hx := mem_getD hA i
  have h1 : Nz.num (A.take i) < 256 ^ (A.take i).length := num_lt fun x hx => hA x (List.mem_of_mem_take hx)
  have h2 : 256 ^ (A.take i).length ≤ 256 ^ 7 := Nat.pow_le_pow_right (by decide) (by rw [List.length_take]; omega)
  have h3 : Nz.num (A.take i) < 72057594037927936 := by
   have e : 256 ^ 7 = 72057594037927936 := by decide
   omega
  show some (Value.int .u64 (.ofNat (Nat.mod (Nat.lor (Nat.mod (Nat.shiftLeft (Nz.num (A.take i)) 8) 18446744073709551616) (Nat.mod (A.getD i 0) 18446744073709551616)) 18446744073709551616))) = some (U (Nz.num (A.take (i + 1))))
  have e1 : Nat.shiftLeft (Nz.num (A.take i)) 8 = Nz.num (A.take i) * 2 ^ 8 := Nat.shiftLeft_eq _ _
  rw [num_take hlt, e1, show Nat.mod (Nz.num (A.take i) * 2 ^ 8) 18446744073709551616 = _ from Nat.mod_eq_of_lt (by omega), show Nat.mod (A.getD i 0) 18446744073709551616 = _ from Nat.mod_eq_of_lt (by omega)]
  have e2 : Nat.lor (Nz.num (A.take i) * 2 ^ 8) (A.getD i 0) = Nz.num (A.take i) * 2 ^ 8 + A.getD i 0 := by
   have := Nat.two_pow_add_eq_or_of_lt (i := 8) hx (Nz.num (A.take i))
   rw [Nat.mul_comm] at this
   exact this.symm
  rw [e2, show Nat.mod (Nz.num (A.take i) * 2 ^ 8 + A.getD i 0) 18446744073709551616 = _ from Nat.mod_eq_of_lt (by omega)]
 ·obtain rfl : i = A.length := by omega
  rw [List.take_length]
  refine run1 ?_
  exact Lv.ret rfl ⟨rfl, rfl⟩
theorem rlen_ok (h : At s q (A.map nB)) (hA : ∀ x ∈ A, x < 256) (hl : A.length ≤ 8) (h0 : 0 < A.length) (h1 : ¬ A.getD 0 0 = 0) (h2 : ¬ 1048576 < Nz.num A) (h3 : ¬ Nz.num A < 56) : Cl B (.call 130 [.slice q A.length c, nI p]) s fun v s' => v = nI (Nz.num A) ∧ s' = s := by
 refine Cl.enter Tryz.f130 fn130 rfl rfl rfl ?_
 have hb : Bs s q A := h
 refine run1 ?_
 refine Wo.call rfl (Xc.call ok125 rfl) rfl ((num_ok h hA hl).mono ?_)
 rintro v s' ⟨rfl, e'⟩; rw [e']; clear e' s'
 refine run1 ?_
 refine Wo.val rfl (Xv.cv rfl rfl rfl (wrapI (by omega))) rfl (run1 ?_)
 exact Lv.ret rfl ⟨rfl, rfl⟩
theorem rhead_ok {b o e base a z : Nat} {l : List Nat} (h : At s (some ⟨b, o, none⟩) (l.map nB)) (hb : ∀ x ∈ l, x < 256) (he : e ≤ l.length) (hc : Rm c l.length 1) (hl : l.length < 2 ^ 40) (hp : p < e) (hg : base ≤ l.getD p 0) (hm : l.getD p 0 - base < 64) (hr : Nz.rdHead l p e (l.getD p 0 - base) = .ok a z) :
  Cl B (.call 124 [.slice (some ⟨b, o, none⟩) e c, nI p, nB base]) s fun v s' => v = .tuple ⟨[nI a, nI z]⟩ ∧ s' = s := by
 refine Cl.enter Tryz.f124 fn124 rfl rfl rfl ?_
 have hB : Bs s (some ⟨b, o, none⟩) l := h
 have hx := mem_getD hb p
 obtain ⟨x, ex⟩ : ∃ x, x = l.getD p 0 := ⟨_, rfl⟩
 rw [← ex] at hx hg hm hr
 refine run1 ?_
 rw [← ex]
 refine Wo.val rfl (Xv.subB rfl rfl hg hx) rfl ?_
 obtain ⟨m, em⟩ : ∃ m, m = x - base := ⟨_, rfl⟩
 rw [← em] at hm hr ⊢
 refine Wo.val rfl (Xv.cv rfl rfl rfl (wrapI (by omega))) rfl (run1 ?_)
 unfold Nz.rdHead at hr
 by_cases h1 : m < 56
 ·rw [if_pos h1] at hr
  have h2 : ¬ 56 ≤ m := by omega
  have h3 : ¬ e - (p + 1) < m := fun h => by rw [if_pos h] at hr; cases hr
  rw [if_neg h3] at hr
  cases hr
  refine run1 ?_
  exact Lv.ret rfl ⟨rfl, rfl⟩
 ·rw [if_neg h1] at hr
  have h2 : 56 ≤ m := by omega
  have h3 : ¬ e - (p + 1) < m - 55 := fun h => by rw [if_pos h] at hr; cases hr
  rw [if_neg h3] at hr
  refine run1 ?_
  refine Wo.slLH rfl rfl rfl rfl rfl rfl rfl (Nat.le_trans (by omega) hc.2.1) (by omega) hc.2.2 hB (by rw [List.length_map]; omega) fun q' c' hq => ?_
  rw [Nat.mul_one, Nat.mul_one, ← List.map_drop, ← List.map_take] at hq
  obtain ⟨k, ek⟩ : ∃ k, k = m - 55 := ⟨_, rfl⟩
  rw [← ek] at hr h3 hq ⊢
  have e1 : p + 1 + k - (p + 1) = k := by omega
  rw [e1] at hq ⊢
  obtain ⟨D, hD⟩ : ∃ D, D = (l.drop (p + 1)).take k := ⟨_, rfl⟩
  have hDl : D.length = k := by rw [hD, List.length_take, List.length_drop]; omega
  have hcut : Nz.cut l (p + 1) (p + 1 + k) = D := by unfold Nz.cut; rw [hD, List.drop_take, e1]
  rw [hcut] at hr
  rw [← hD] at hq
  have hDb : ∀ x ∈ D, x < 256 := fun x hx => hb x (List.mem_of_mem_drop (List.mem_of_mem_take (hD ▸ hx)))
  have h4 : ¬ Nz.gd l (p + 1) = 0 := fun h => by rw [if_pos h] at hr; cases hr
  rw [if_neg h4] at hr
  have h5 : ¬ 1048576 < Nz.num D := fun h => by rw [if_pos h] at hr; cases hr
  rw [if_neg h5] at hr
  have h6 : ¬ Nz.num D < 56 := fun h => by rw [if_pos h] at hr; cases hr
  rw [if_neg h6] at hr
  have h7 : ¬ e - (p + 1 + k) < Nz.num D := fun h => by rw [if_pos h] at hr; cases hr
  rw [if_neg h7] at hr
  cases hr
  have h8 : ¬ D.getD 0 0 = 0 := fun h => h4 (by
   rw [hD, List.getD_eq_getElem?_getD, List.getElem?_take, if_pos (by omega), List.getElem?_drop] at h
   unfold Nz.gd
   rw [List.getD_eq_getElem?_getD]
   exact h)
  have hk0 : 0 < D.length := by omega
  have hk8 : D.length ≤ 8 := by omega
  refine run1 ?_
  have rl := rlen_ok (c := c') (p := p) hq hDb hk8 hk0 h8 h5 h6
  rw [hDl] at rl
  refine Wo.call rfl (Xc.call ok130 rfl) rfl (rl.mono ?_)
  rintro v s' ⟨rfl, e'⟩; rw [e']; clear e' s'
  refine run1 ?_
  exact Lv.ret rfl ⟨rfl, rfl⟩
def Im (s : St) : Nat → List Value → Prop
 | 0, _ => False
 | d + 1, cs => (∃ (q : Option Addr) (c : Nat) (b : List Nat), cs = [.bool false, .slice q b.length c, .slice none 0 0] ∧ At s q (b.map nB) ∧ b.length ≤ 1048576 ∧ ∀ x ∈ b, x < 256) ∨
  ∃ (q : Option Addr) (c : Nat) (css : List (List Value)), cs = [.bool true, .slice none 0 0, .slice q css.length c] ∧ At s q css.flatten ∧ css.length ≤ 1048576 ∧ ∀ x ∈ css, x.length = 3 ∧ Im s d x
def Ix (s : St) : Nat → Nz.It → List Value → Prop
 | 0, _, _ => False
 | d + 1, x, cs => (∃ (q : Option Addr) (c : Nat) (b : List Nat), x = .mk false b [] ∧ cs = [.bool false, .slice q b.length c, .slice none 0 0] ∧ At s q (b.map nB) ∧ b.length ≤ 1048576 ∧ ∀ x ∈ b, x < 256) ∨
  ∃ (q : Option Addr) (c : Nat) (ps : List (Nz.It × List Value)), x = .mk true [] (ps.map Prod.fst) ∧ cs = [.bool true, .slice none 0 0, .slice q ps.length c] ∧ At s q (ps.map Prod.snd).flatten ∧ ps.length ≤ 1048576 ∧ ∀ p ∈ ps, p.2.length = 3 ∧ Ix s d p.1 p.2
theorem Ix.im : ∀ {d : Nat} {x : Nz.It} {cs : List Value}, Ix s d x cs → Im s d cs
 | 0, _, _, h => h
 | d + 1, x, cs, h => by
  rcases h with ⟨q, c, b, _, h2⟩ | ⟨q, c, ps, _, rfl, h3, h4, h5⟩
  ·exact .inl ⟨q, c, b, h2⟩
  ·refine .inr ⟨q, c, ps.map Prod.snd, by rw [List.length_map], h3, by rw [List.length_map]; exact h4, fun y hy => ?_⟩
   obtain ⟨p, hp, rfl⟩ := List.mem_map.1 hy
   exact ⟨(h5 p hp).1, (h5 p hp).2.im⟩
def IxK (s : St) (C : Nat → Prop) : Nat → Nz.It → List Value → Prop
 | 0, _, _ => False
 | d + 1, x, cs => (∃ (q : Option Addr) (c : Nat) (b : List Nat) (γ : Nat), x = .mk false b [] ∧ cs = [.bool false, .slice q b.length c, .slice none 0 0] ∧ Sl s q (b.map nB) γ ∧ ¬ C γ ∧ γ < s.nx ∧ b.length ≤ 1048576 ∧ ∀ x ∈ b, x < 256) ∨
  ∃ (q : Option Addr) (c : Nat) (ps : List (Nz.It × List Value)) (γ : Nat), x = .mk true [] (ps.map Prod.fst) ∧ cs = [.bool true, .slice none 0 0, .slice q ps.length c] ∧ Sl s q (ps.map Prod.snd).flatten γ ∧ ¬ C γ ∧ γ < s.nx ∧ ps.length ≤ 1048576 ∧ ∀ p ∈ ps, p.2.length = 3 ∧ IxK s C d p.1 p.2
theorem IxK.ix {C : Nat → Prop} : ∀ {d : Nat} {x : Nz.It} {cs : List Value}, IxK s C d x cs → Ix s d x cs
 | 0, _, _, h => h
 | d + 1, x, cs, h => by
  rcases h with ⟨q, c, b, γ, h1, h2, h3, _, _, h4⟩ | ⟨q, c, ps, γ, h1, h2, h3, _, _, h4, h5⟩
  ·exact .inl ⟨q, c, b, h1, h2, h3.at, h4⟩
  ·exact .inr ⟨q, c, ps, h1, h2, h3.at, h4, fun p hp => ⟨(h5 p hp).1, (h5 p hp).2.ix⟩⟩
theorem IxK.step {t : St} {C C' : Nat → Prop} (w : Wf s) (k : Kp (fun c => C c ∨ s.nx ≤ c) s t) (hg : ∀ c, C' c → C c ∨ s.nx ≤ c) : ∀ {d : Nat} {x : Nz.It} {cs : List Value}, IxK s C d x cs → IxK t C' d x cs
 | 0, _, _, h => h
 | d + 1, x, cs, h => by
  have kp : ∀ {γ : Nat}, ¬ C γ → γ < s.nx → ¬ (C γ ∨ s.nx ≤ γ) := fun h1 h2 h => h.elim h1 (by omega)
  rcases h with ⟨q, c, b, γ, h1, h2, h3, h6, h7, h4⟩ | ⟨q, c, ps, γ, h1, h2, h3, h6, h7, h4, h5⟩
  ·exact .inl ⟨q, c, b, γ, h1, h2, h3.kp w k (kp h6 h7), fun e => kp h6 h7 (hg _ e), Nat.lt_of_lt_of_le h7 k.le, h4⟩
  ·exact .inr ⟨q, c, ps, γ, h1, h2, h3.kp w k (kp h6 h7), fun e => kp h6 h7 (hg _ e), Nat.lt_of_lt_of_le h7 k.le, h4, fun p hp => ⟨(h5 p hp).1, (h5 p hp).2.step w k hg⟩⟩
theorem ix_str {C : Nat → Prop} {d : Nat} {q : Option Addr} {c γ : Nat} {A : List Nat} (h : Sl s q (A.map nB) γ) (hg : ¬ C γ) (hn : γ < s.nx) (hl : A.length ≤ 1048576) (hA : ∀ x ∈ A, x < 256) : IxK s C (d + 1) (.mk false A []) [.bool false, .slice q A.length c, .slice none 0 0] :=
 .inl ⟨q, c, A, γ, rfl, rfl, h, hg, hn, hl, hA⟩
theorem ix_lst {C : Nat → Prop} {d : Nat} {q : Option Addr} {c γ : Nat} {ps : List (Nz.It × List Value)} (h : Sl s q (ps.map Prod.snd).flatten γ) (hg : ¬ C γ) (hn : γ < s.nx) (hl : ps.length ≤ 1048576) (h3 : ∀ p ∈ ps, p.2.length = 3 ∧ IxK s C d p.1 p.2) : IxK s C (d + 1) (.mk true [] (ps.map Prod.fst)) [.bool true, .slice none 0 0, .slice q ps.length c] :=
 .inr ⟨q, c, ps, γ, rfl, rfl, h, hg, hn, hl, h3⟩
theorem Im.len (h : Im s d cs) : cs.length = 3 ∧ ∀ v ∈ cs, one v = true := by
 cases d with
 | zero => exact absurd h id
 | succ d =>
  rcases h with ⟨q, c, b, rfl, _⟩ | ⟨q, c, css, rfl, _⟩
  ·exact ⟨rfl, by intro v hv; simp at hv; rcases hv with rfl | rfl | rfl <;> rfl⟩
  ·exact ⟨rfl, by intro v hv; simp at hv; rcases hv with rfl | rfl | rfl <;> rfl⟩
theorem Im.cells (h : Im s d cs) : ∃ (b : Bool) (q : Option Addr) (n c : Nat) (q' : Option Addr) (n' c' : Nat), cs = [.bool b, .slice q n c, .slice q' n' c'] := by
 cases d with
 | zero => exact absurd h id
 | succ d =>
  rcases h with ⟨q, c, b, rfl, _⟩ | ⟨q, c, css, rfl, _⟩
  ·exact ⟨_, _, _, _, _, _, _, rfl⟩
  ·exact ⟨_, _, _, _, _, _, _, rfl⟩
def Got (s : St) (d : Nat) (x : Nz.It) (z : Nat) (v : Value) (s' : St) : Prop := ∃ cs, v = .tuple ⟨[.agg ⟨cs⟩, nI z]⟩ ∧ IxK s' (fun c => c < s.nx) d x cs ∧ Kn s s'
def Rdr (b o : Nat) (l : List Nat) (d : Nat) : Prop := ∀ {s : St} {p e c : Nat} {x : Nz.It} {z : Nat}, Wf s → At s (some ⟨b, o, none⟩) (l.map nB) → Rm c l.length 1 → p ≤ e → e ≤ l.length → Nz.rd l d p e = .ok x z →
 Cl B (.call 100 [.slice (some ⟨b, o, none⟩) e c, nI p, nI (80 - d)]) s (Got s (d + 1) x z)
structure Li (s : St) (l : List Nat) (d a0 z : Nat) (x : Nz.It) (b6 b10 a : Nat) (t : St) (q : Option Addr) (c γ : Nat) (css : List (Nz.It × List Value)) : Prop where
 r6 : Rw t b6 z3 b6
 r10 : Rw t b10 [.bool true, .slice none 0 0, .slice q css.length c] b10
 kn : Kn s t
 len : css.length ≤ a - a0
 lo : a0 ≤ a
 hi : a ≤ z
 rd : ∃ n z', z - a ≤ n ∧ Nz.rdL (Nz.rd l d) n a z (css.map Prod.fst) = .ok x z'
 gw : Gw t q css.length c 3 (css.map Prod.snd).flatten γ
 st : (css = [] ∧ q = none) ∨ (s.nx ≤ γ ∧ γ < t.nx ∧ γ ≠ b6 ∧ γ ≠ b10)
 it : ∀ x ∈ css, x.2.length = 3 ∧ IxK t (fun c => c = γ ∨ c = b6 ∨ c = b10 ∨ c < s.nx) (d + 1) x.1 x.2
set_option maxHeartbeats 1600000 in
theorem rlist_ok {b o e a z : Nat} {l : List Nat} {x : Nz.It} {z' : Nat} (hsub : Rdr b o l d) (hd : d < 80) (w0 : Wf s) (h : At s (some ⟨b, o, none⟩) (l.map nB)) (hb : ∀ x ∈ l, x < 256) (hc : Rm c l.length 1) (hl : l.length ≤ 1048576) (hp : p < e) (he : e ≤ l.length) (hg : 192 ≤ l.getD p 0) (hr : Nz.rdHead l p e (l.getD p 0 - 192) = .ok a z) (haz : a ≤ z) (hze : z ≤ e) (hL : Nz.rdL (Nz.rd l d) (z - a) a z [] = .ok x z') :
  Cl B (.call 123 [.slice (some ⟨b, o, none⟩) e c, nI p, nI (79 - d)]) s (Got s (d + 2) x z) := by
 refine Cl.enter Tryz.f123 fn123 rfl rfl rfl ?_
 refine run1 ?_
 refine mk_gen (cs := z3) (M := fun s' => W _ _ _ _ s' _) fun s1 r1 n1 k1 => ?_
 have w1 : Wf s1 := k1.wf w0
 have h80 : ¬ 80 ≤ 79 - d := by omega
 have hx := mem_getD hb p
 refine run1 ?_
 refine Wo.call rfl (Xc.call ok124 rfl) rfl ((rhead_ok (h.kn w0 k1) hb he hc (by omega) hp hg (by omega) hr).mono ?_)
 rintro v s' ⟨rfl, e'⟩; rw [e']; clear e' s'
 refine run1 ?_
 refine mkO (cs := z3) fun s2 r2 n2 k2 => ?_
 have w2 : Wf s2 := k2.wf w1
 refine Wo.st rfl rfl rfl rfl rfl rfl rfl (by intro v hv; simp at hv; rcases hv with rfl | rfl | rfl <;> rfl) r2 (by decide) fun s3 r3 n3 k3 => ?_
 have r3' : Rw s3 s1.nx [.bool true, .slice none 0 0, .slice none 0 0] s1.nx := r3
 have K13 : Kn s1 s3 := k2.app k3 (Nat.le_refl _)
 have w3 : Wf s3 := K13.wf w1
 have k03 : Kn s s3 := k1.call K13
 have rr6 := r1.kp w1 K13 id
 obtain ⟨b6, hb6⟩ : ∃ b, b = s.nx := ⟨_, rfl⟩
 obtain ⟨b10, hb10⟩ : ∃ b, b = s1.nx := ⟨_, rfl⟩
 rw [← hb6] at rr6 ⊢
 rw [← hb10] at r3' ⊢
 have e1 := k1.le
 refine run1 ?_
 refine W.loop (α := Nat × St) (fun a => [(0, .slice (some ⟨b, o, none⟩) e c), (2, nI (79 - d)), (6, .pointer (some ⟨b6, 0, none⟩)), (8, nI a.1), (9, nI z), (10, .pointer (some ⟨b10, 0, none⟩))]) (fun _ => []) (fun a => a.2)
  (fun y => ∃ q c γ css, Li s l d a z x b6 b10 y.1 y.2 q c γ css) (fun a => z - a.1) (a, s3) ⟨none, 0, 0, [], rr6, r3', k03, Nat.zero_le _, Nat.le_refl _, haz, ⟨_, _, Nat.le_refl _, hL⟩, .nil, .inl ⟨rfl, rfl⟩, fun x hx => (List.not_mem_nil hx).elim⟩ (.cons rfl (.cons rfl (.cons rfl (.cons rfl (.cons rfl (.cons rfl .nil)))))) rfl rfl (by show z - a < _; omega) ?_
 rintro ⟨i, t⟩ ⟨q, cc, γ, css, I⟩
 simp only at I
 dsimp only
 have wt : Wf t := I.kn.wf w0
 have et := I.kn.le
 have ilo := I.lo
 have ihi := I.hi
 have ilen := I.len
 have hb6t := (I.r6.lt wt).1
 have hb10t := (I.r10.lt wt).1
 by_cases hi : i < z
 ·obtain ⟨n, z2, hn, hrl⟩ := I.rd
  obtain ⟨n', rfl⟩ : ∃ m, n = m + 1 := ⟨n - 1, by omega⟩
  rw [Nz.rdL, if_pos hi] at hrl
  cases hrd : Nz.rd l d i z with
  | bad p c => rw [hrd] at hrl; cases hrl
  | ok y i' =>
   rw [hrd] at hrl
   obtain ⟨y1, y2, _⟩ := Nz.rd_ok hb d i z y i' (by omega) (by omega) hrd
   refine run1 ?_
   refine mkO (cs := z3) fun t1 p1 m1 g1 => ?_
   have wt1 : Wf t1 := g1.wf wt
   refine run1 ?_
   refine Wo.slH0 (N := l.length) rfl rfl rfl rfl rfl rfl hc (by omega) fun c' hc' => ?_
   refine run1 ?_
   rw [show 79 - d + 1 = 80 - d by omega]
   refine Wo.call rfl (Xc.call ok100 rfl) rfl ((hsub wt1 (h.kn w0 (I.kn.call g1)) hc' (by omega) (by omega) hrd).mono ?_)
   rintro v t2 ⟨cs, rfl, hcs, g2⟩
   have wt2 : Wf t2 := g2.wf wt1
   have hcs3 := hcs.ix.im.len
   obtain ⟨bb, u1, u2, u3, u4, u5, u6, rfl⟩ := hcs.ix.im.cells
   refine run1 ?_
   refine Wo.st rfl rfl rfl rfl rfl rfl hcs3.1 hcs3.2 (p1.kp wt1 g2 id) (by decide) fun t3 p3 m3 g3 => ?_
   have p3 : Rw t3 t.nx [.bool bb, .slice u1 u2 u3, .slice u4 u5 u6] t.nx := p3
   have e2 := g2.le
   have Kt3 : Kn t t3 := (g1.call g2).app g3 (Nat.le_refl _)
   have wt3 : Wf t3 := Kt3.wf wt
   have g10 : good (some ⟨b10, 0, none⟩) := good_b
   have l10 : ldq t3 (qadd (some ⟨b10, 0, none⟩) 2) = some (.slice q css.length cc) := (I.r10.kp wt Kt3 id).f1 rfl
   have lcs := p3.all (n := 3) rfl (by decide)
   refine run1 ?_
   refine mkO (cs := [.bool bb, .slice u1 u2 u3, .slice u4 u5 u6]) fun t4 p4 m4 g4 => ?_
   have wt4 : Wf t4 := g4.wf wt3
   have Kt4 : Kn t t4 := Kt3.call g4
   obtain ⟨γ0, hgw, hγt, hγs, hγ6, hγ10, hit⟩ : ∃ γ0, Gw t4 q css.length cc 3 (css.map Prod.snd).flatten γ0 ∧ γ0 < t1.nx ∧ s.nx ≤ γ0 ∧ γ0 ≠ b6 ∧ γ0 ≠ b10 ∧ ∀ x ∈ css, x.2.length = 3 ∧ IxK t4 (fun c => c = γ0 ∨ c = b6 ∨ c = b10 ∨ c < s.nx) (d + 1) x.1 x.2 := by
    rcases I.st with ⟨rfl, rfl⟩ | ⟨c1, c2, c3, c4⟩
    ·have hc0 : cc = 0 := by
      rcases I.gw.at' with ⟨_, _, h⟩ | ⟨_, _, h, _⟩
      ·exact h
      ·cases h
     subst hc0
     exact ⟨t.nx, .nil, by omega, et, by omega, by omega, fun x hx => (List.not_mem_nil hx).elim⟩
    ·exact ⟨γ, I.gw.kp wt Kt4 id, by omega, c1, c3, c4, fun x hx => ⟨(I.it x hx).1, (I.it x hx).2.step wt (Kt4.w) fun c hc => .inl hc⟩⟩
   refine Wo.app rfl rfl rfl rfl rfl rfl rfl rfl rfl wt4 hgw rfl (cells_at (k := 1) (size := 3) p4.ats rfl (by decide)) rfl hcs3.2 rfl (by omega) (by omega) ?_
   intro qn cn γn ta a1 a2 a3
   have wta : Wf ta := a2.wf wt4
   have ea := a2.le
   have e3 := g3.le
   have e4 := g4.le
   have ra10 := (I.r10.kp wt Kt4 id).kp wt4 a2 (fun h => hγ10 h.symm)
   have ra6 := (I.r6.kp wt Kt4 id).kp wt4 a2 (fun h => hγ6 h.symm)
   refine run1 ?_
   refine Wo.st rfl rfl rfl rfl rfl rfl rfl (by intro v hv; rw [List.mem_singleton] at hv; rw [hv]; rfl) ra10 (show 0 + 2 + 1 ≤ 3 by decide) fun tb pb mb gb => ?_
   have pb' : Rw tb b10 [.bool true, .slice none 0 0, .slice qn (css.length + 1) cn] b10 := pb
   have hγa : γn < ta.nx := by
    refine a1.ltq wta ?_
    rintro rfl
    rcases a1.at' with ⟨_, h, _⟩ | ⟨_, _, h, _⟩ <;> cases h
   have hγn : γn = γ0 ∨ t4.nx ≤ γn := by rcases a3 with h | ⟨h, _⟩ <;> omega
   have hne10 : b10 ≠ γn := by omega
   have h610 : b6 ≠ b10 := by omega
   refine run1 ?_
   refine rnd.n (i', tb) ⟨qn, cn, γn, css ++ [(y, [.bool bb, .slice u1 u2 u3, .slice u4 u5 u6])], ?_⟩ (by show z - i' < z - i; omega) (.cons rfl (.cons rfl (.cons rfl (.cons rfl (.cons rfl (.cons rfl .nil)))))) rfl rfl
   have up : ∀ {x : Nz.It} {y : List Value}, IxK t4 (fun c => c = γ0 ∨ c = b6 ∨ c = b10 ∨ c < s.nx) (d + 1) x y → IxK tb (fun c => c = γn ∨ c = b6 ∨ c = b10 ∨ c < s.nx) (d + 1) x y := fun hf =>
    (hf.step (C' := fun c => c = γn ∨ c = b6 ∨ c = b10 ∨ c < s.nx) wt4 (a2.mono fun c h => .inl (.inl h)) fun c hc => by rcases hc with rfl | hc; (· rcases hγn with h | h; (· exact .inl (.inl h)); exact .inr h); exact .inl (.inr hc)).step wta (gb.mono fun c h => .inl (.inr (.inr (.inl h)))) fun c hc => .inl hc
   have e5 : (css ++ [(y, [Value.bool bb, .slice u1 u2 u3, .slice u4 u5 u6])]).length = css.length + 1 := by rw [List.length_append]; rfl
   refine ⟨ra6.kp wta gb h610, by rw [e5]; exact pb', ((I.kn.call Kt4).app a2 hγs).app gb (by omega), by rw [e5]; omega, by omega, y2, ⟨n', z2, by omega, by rw [List.map_append]; exact hrl⟩, ?_, .inr ⟨by omega, by show γn < tb.nx; omega, by omega, by omega⟩, fun x hx => ?_⟩
   ·rw [List.map_append, List.flatten_append, e5]
    exact a1.kp wta gb (fun h => hne10 h.symm)
   ·rcases List.mem_append.1 hx with hx | hx
    ·exact ⟨(hit x hx).1, up (hit x hx).2⟩
    ·rw [List.mem_singleton] at hx
     subst hx
     refine ⟨rfl, up ?_⟩
     have k24 : Kp (fun c => c < t1.nx ∨ t2.nx ≤ c) t2 t4 := (g3.mono fun c h => .inl (by omega)).trans (g4.w)
     exact hcs.step wt2 k24 fun c hc => .inl (by show c < t1.nx; omega)
 ·have hiz : i = z := by omega
  subst hiz
  have l10 := I.r10.all (n := 3) rfl (by decide)
  refine run1 ?_
  refine Wo.st rfl rfl rfl rfl rfl rfl rfl (by intro v hv; simp at hv; rcases hv with rfl | rfl | rfl <;> rfl) I.r6 (by decide) fun t1 p1 m1 g1 => ?_
  have p1' : Rw t1 b6 [.bool true, .slice none 0 0, .slice q css.length cc] b6 := p1
  refine run1 ?_
  have hcl := cell_at (B := B) (t := 94) rfl rfl p1' rfl rfl
  obtain ⟨γ', sl', hn1, hn2, hn3⟩ : ∃ γ', Sl t q (css.map Prod.snd).flatten γ' ∧ γ' ≠ b6 ∧ γ' < t.nx ∧ s.nx ≤ γ' := by
   rcases I.st with ⟨rfl, rfl⟩ | ⟨c1, c2, c3, c4⟩
   ·exact ⟨b10, .inl ⟨rfl, .inl rfl⟩, by omega, hb10t, by omega⟩
   ·exact ⟨γ, I.gw.sl, c3, c2, c1⟩
  obtain ⟨n, z2, hn, hrl⟩ := I.rd
  have hx : x = .mk true [] (css.map Prod.fst) := by
   cases n with
   | zero => rw [Nz.rdL] at hrl; cases hrl; rfl
   | succ n => rw [Nz.rdL, if_neg (Nat.lt_irrefl _)] at hrl; cases hrl; rfl
  subst hx
  have fin := ix_lst (C := fun c => c = b6 ∨ c < s.nx) (d := d + 1) (c := cc) sl' (by omega) hn2 (by omega) fun x hx => ⟨(I.it x hx).1, (I.it x hx).2.step wt .refl fun c hc => .inl (by rcases hc with h | h; (· exact .inr (.inl h)); exact .inr (.inr (.inr h)))⟩
  refine Lv.ret (vs := [.agg ⟨[.bool true, .slice none 0 0, .slice q css.length cc]⟩, nI i]) ?_ ⟨_, rfl, fin.step wt (g1.mono fun c h => .inl (.inl h)) fun c hc => .inl (.inr hc), I.kn.app g1 (by omega)⟩
  show (match cell1 B.P (.pointer (some ⟨b6, 0, none⟩)) 94 t1, some [nI i] with | some v, some vs => some (v :: vs) | _, _ => none) = _
  rw [hcl]
end Go.Proofs.YtglilbadldocoaaGreatDoor
