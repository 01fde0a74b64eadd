import Derived.Test.YteldpcbhfbgomaaGreatDoorRkzz
namespace Go.Proofs.YteldpcbhfbgomaaGreatDoor
open Go Go.Ev Go.Sy
set_option maxRecDepth 100000
variable {s : St}
abbrev I (z : Int) : Value := .int .i64 z
abbrev KAt (s : St) : Prop := At s (some ⟨0, 0, none⟩) Dg.KN
theorem TabAt.kat (h : TabAt s) : KAt s := h (0, Dg.KN) (by simp [Dg.tabs])
def lookV (k : Int) : List Value := if k = 1 then [I 1, I 0, I 0, .bool true] else if k = 2 then [I 2, I 1, I 32, .bool false] else [I 0, I 0, I 0, .bool false]
theorem lookOf_ok {k : Int} (w0 : Wf s) (hK : KAt s) : Cl B (.call 43 [I k]) s fun v s' => v = .tuple ⟨[.agg ⟨lookV k⟩, .bool (decide (k = 1 ∨ k = 2))]⟩ ∧ Kn s s' := by
 refine Cl.enter Tryz.f43 fn43 rfl rfl rfl ?_
 refine run1 ?_
 refine mk_gen (M := fun s' => Wo _ _ _ _ _ s' _) fun s1 r1 n1 k1 => ?_
 have w1 : Wf s1 := k1.wf w0
 have hl : ldn s1 (some ⟨0, 0, none⟩) 8 = some Dg.KN := (hK.kn w0 k1).ldn (i := 0) (n := 8) (by decide) (by decide)
 refine run1 ?_
 refine W.loop (α := Nat × St) (fun a => [(0, I k), (2, .pointer (some ⟨s.nx, 0, none⟩)), (6, .agg ⟨Dg.KN⟩), (7, nI a.1)]) (fun _ => []) (fun a => a.2)
  (fun a => a.1 ≤ 2 ∧ Rw a.2 s.nx [I 0, I 0, I 0, .bool false] s.nx ∧ Kn s1 a.2 ∧ (1 ≤ a.1 → k ≠ 1) ∧ (2 ≤ a.1 → k ≠ 2)) (fun a => 2 - a.1) (0, s1) ⟨Nat.zero_le _, r1, .refl, by omega, by omega⟩ (.cons rfl (.cons rfl (.cons rfl (.cons rfl .nil)))) rfl rfl (by show 2 - 0 < _; omega) ?_
 rintro ⟨i, t0⟩ ⟨i1, i2, i3, i4, i5⟩
 simp only at i1 i2 i3 i4 i5
 dsimp only
 have wt : Wf t0 := i3.wf w1
 by_cases hi : i < 2
 ·refine run1 ?_
  obtain ⟨e, d1, d2, d3, he, hD, hV⟩ : ∃ (e d1 d2 : Int) (d3 : Bool), e = (i : Int) + 1 ∧ (Dg.KN.drop (i * 4)).take 4 = [I e, I d1, I d2, .bool d3] ∧ lookV e = [I e, I d1, I d2, .bool d3] := by
   obtain rfl | rfl : i = 0 ∨ i = 1 := by omega
   ·exact ⟨1, 0, 0, true, rfl, rfl, rfl⟩
   ·exact ⟨2, 1, 32, false, rfl, rfl, rfl⟩
  refine Wo.val rfl (Xv.ixN rfl rfl rfl rfl rfl hi (by show i * 4 + 4 ≤ 8; omega)) rfl ?_
  rw [hD]
  refine run1 ?_
  refine mk_gen (M := fun s' => Wo _ _ _ _ _ s' _) fun t1 q1 m1 g1 => ?_
  have wt1 : Wf t1 := g1.wf wt
  refine Wo.st rfl rfl rfl rfl rfl rfl rfl (by intro v hv; simp at hv; rcases hv with rfl | rfl | rfl | rfl <;> rfl) q1 (by decide) fun t2 q2 m2 g2 => ?_
  have q2' : Rw t2 t0.nx [I e, I d1, I d2, .bool d3] t0.nx := q2
  have hg : good (some ⟨t0.nx, 0, none⟩) := good_b
  have hl0 : ldq t2 (qadd (some ⟨t0.nx, 0, none⟩) 0) = some (I e) := q2'.f1 rfl
  have l4 : ldn t2 (some ⟨t0.nx, 0, none⟩) 4 = some [I e, I d1, I d2, .bool d3] := q2'.fn (i := 0) (n := 4) (Nat.le_refl _) (by decide)
  have hlt := i2.lt wt
  have i2b : Rw t2 s.nx [I 0, I 0, I 0, .bool false] s.nx := (i2.kp wt g1 id).kp wt1 g2 (by omega)
  have kk : Kn s1 t2 := i3.call (g1.app g2 (Nat.le_refl _))
  refine run1 ?_
  refine W.cond rfl (fun h => ?_) (fun h => ?_)
  ·refine run1 ?_
   refine Wo.st rfl rfl rfl rfl rfl rfl rfl (by intro v hv; simp at hv; rcases hv with rfl | rfl | rfl | rfl <;> rfl) i2b (by decide) fun t3 q3 m3 g3 => ?_
   have q3' : Rw t3 s.nx [I e, I d1, I d2, .bool d3] s.nx := q3
   refine run1 ?_
   have hc := cell_at (B := B) (t := 93) rfl rfl q3' rfl rfl
   obtain rfl : k = e := by omega
   refine Lv.ret (vs := [.agg ⟨[I k, I d1, I d2, .bool d3]⟩, .bool true]) ?_ ⟨?_, (k1.call kk).app g3 (Nat.le_refl _)⟩
   ·show (match cell1 B.P (.pointer (some ⟨s.nx, 0, none⟩)) 93 t3, some [Value.bool true] with | some v, some vs => some (v :: vs) | _, _ => none) = _
    rw [hc]
   ·rw [hV, decide_eq_true (by omega)]; rfl
  ·refine run1 ?_
   exact rnd.n (i + 1, t2) ⟨hi, i2b, kk, by omega, by omega⟩ (by show 2 - (i + 1) < 2 - i; omega) (.cons rfl (.cons rfl (.cons rfl (.cons rfl .nil)))) rfl rfl
 ·refine run1 ?_
  refine Wo.st rfl rfl rfl rfl rfl rfl rfl (by intro v hv; simp at hv; rcases hv with rfl | rfl | rfl | rfl <;> rfl) i2 (by decide) fun t3 q3 m3 g3 => ?_
  have q3' : Rw t3 s.nx [I 0, I 0, I 0, .bool false] s.nx := q3
  refine run1 ?_
  have hc := cell_at (B := B) (t := 93) rfl rfl q3' rfl rfl
  refine Lv.ret (vs := [.agg ⟨[I 0, I 0, I 0, .bool false]⟩, .bool false]) ?_ ⟨?_, (k1.call i3).app g3 (Nat.le_refl _)⟩
  ·show (match cell1 B.P (.pointer (some ⟨s.nx, 0, none⟩)) 93 t3, some [Value.bool false] with | some v, some vs => some (v :: vs) | _, _ => none) = _
   rw [hc]
  ·have h1 := i4 (by omega)
   have h2 := i5 (by omega)
   rw [lookV, if_neg h1, if_neg h2, decide_eq_false (by omega)]; rfl
structure Ch where
 kv : Value
 vv : Value
 k : List Nat
 v : List Nat
 g : Bool
def chc (x : Ch) : List Value := [x.kv, x.vv, .bool x.g]
structure ChOk (s : St) (x : Ch) : Prop where
 hk : BsV s x.kv x.k
 hv : BsV s x.vv x.v
 bk : ∀ y ∈ x.k, y < 256
 bv : ∀ y ∈ x.v, y < 256
theorem ChOk.kn {s s' : St} {x : Ch} (h : ChOk s x) (w : Wf s) (k : Kn s s') : ChOk s' x := ⟨h.hk.kn w k, h.hv.kn w k, h.bk, h.bv⟩
theorem ChOk.one {x : Ch} (h : ChOk s x) : ∀ v ∈ chc x, one v = true := by
 obtain ⟨q, c, e, _⟩ := h.hk
 obtain ⟨q', c', e', _⟩ := h.hv
 intro v hv
 simp only [chc, e, e', List.mem_cons, List.not_mem_nil, or_false] at hv
 rcases hv with rfl | rfl | rfl <;> rfl
def chM (x : Ch) : Prop := x.k.length ≤ 32 ∧ x.v.length ≤ 256 ∧ x.g = decide (x.v.length = 0)
instance {x : Ch} : Decidable (chM x) := by unfold chM; infer_instance
theorem mayStand_ok {x : Ch} (_w0 : Wf s) (h : ChOk s x) : Cl B (.call 44 [.agg ⟨chc x⟩]) s fun v s' => v = .bool (decide (chM x)) ∧ Kn s s' := by
 refine Cl.enter Tryz.f44 fn44 rfl rfl rfl ?_
 obtain ⟨kv, vv, k, v, g⟩ := x
 obtain ⟨⟨q, c, e1, hk1, hk2⟩, ⟨q', c', e2, hv1, hv2⟩, _, _⟩ := h
 simp only at e1 e2 hk1 hk2 hv1 hv2
 subst e1 e2
 refine run1 ?_
 refine mk_gen (cs := [.slice q k.length c, .slice q' v.length c', .bool g]) (M := fun s' => Wo _ _ _ _ _ s' _) fun s1 r1 n1 k1 => ?_
 have gd : good (some ⟨s.nx, 0, none⟩) := good_b
 have l0 : ldq s1 (qadd (some ⟨s.nx, 0, none⟩) 0) = some (.slice q k.length c) := r1.f1 rfl
 have l1 : ldq s1 (qadd (some ⟨s.nx, 0, none⟩) 1) = some (.slice q' v.length c') := r1.f1 rfl
 have l2 : ldq s1 (qadd (some ⟨s.nx, 0, none⟩) 2) = some (.bool g) := r1.f1 rfl
 by_cases h1 : 32 < k.length
 ·refine run1 ?_
  refine Lv.ret rfl ⟨?_, k1⟩
  exact congrArg Value.bool (decide_eq_false fun h => by have : k.length ≤ 32 := h.1; omega).symm
 ·by_cases h2 : 256 < v.length
  ·refine run1 ?_
   refine Lv.ret rfl ⟨?_, k1⟩
   exact congrArg Value.bool (decide_eq_false fun h => by have : v.length ≤ 256 := h.2.1; omega).symm
  ·refine run1 ?_
   refine Wo.val rfl (Xv.eqB rfl rfl rfl) rfl (run1 ?_)
   refine Lv.ret rfl ⟨?_, k1⟩
   refine congrArg Value.bool ?_
   rw [Bool.eq_iff_iff, beq_iff_eq, decide_eq_true_iff]
   exact ⟨fun h => ⟨by show k.length ≤ 32; omega, by show v.length ≤ 256; omega, h⟩, fun h => h.2.2⟩
def rcV (k c q : Int) (P R : List Nat) (x : Value) : List Value := I k :: I c :: I q :: (P.map nB ++ (R.map nB ++ [x]))
theorem rc_len {k c q : Int} {P R : List Nat} {x : Value} (hP : P.length = 32) (hR : R.length = 32) : (rcV k c q P R x).length = 68 := by simp [rcV, hP, hR]
theorem rc_chg {k c q : Int} {P R : List Nat} {x : Value} (hP : P.length = 32) (hR : R.length = 32) : (rcV k c q P R x)[67]? = some x := by
 unfold rcV
 rw [List.getElem?_cons_succ, List.getElem?_cons_succ, List.getElem?_cons_succ, List.getElem?_append_right (by rw [List.length_map]; omega), List.getElem?_append_right (by rw [List.length_map, List.length_map]; omega), List.length_map, List.length_map, hP, hR]; rfl
structure RcOk (s : St) (Q : Option Addr) (xs : List Ch) : Prop where
 at' : At s Q (xs.map chc).flatten
 ok : ∀ x ∈ xs, ChOk s x
 len : xs.length < 2 ^ 42
theorem RcOk.kn {s s' : St} {Q : Option Addr} {xs : List Ch} (h : RcOk s Q xs) (w : Wf s) (k : Kn s s') : RcOk s' Q xs := ⟨h.at'.kn w k, fun x hx => (h.ok x hx).kn w k, h.len⟩
theorem RcOk.kid {Q : Option Addr} {xs : List Ch} (h : RcOk s Q xs) {i : Nat} (hi : i < xs.length) : good Q ∧ ldn s (qadd Q (i * 3)) 3 = some (chc xs[i]) := Go.Proofs.YteldpcbhfbgomaaGreatDoor.kid h.at' (fun x hx => by obtain ⟨y, _, rfl⟩ := List.mem_map.1 hx; rfl) (by rw [List.getElem?_map, List.getElem?_eq_getElem hi]; rfl)
def mayR (k c q : Int) (xs : List Ch) : Prop := ((k = 1 ∧ 0 ≤ q ∧ xs.length = 0) ∨ (k = 2 ∧ 1 ≤ q ∧ xs.length ≤ 32)) ∧ 1 ≤ c ∧ c ≤ 1099511627776 ∧ q ≤ c ∧ ∀ x ∈ xs, chM x
instance {k c q : Int} {xs : List Ch} : Decidable (mayR k c q xs) := by unfold mayR; infer_instance
set_option maxHeartbeats 1600000 in
theorem jmay_ok {k c q : Int} {P R : List Nat} {Q : Option Addr} {xs : List Ch} {C : Nat} (w0 : Wf s) (hT : TabAt s) (hP : P.length = 32) (hR : R.length = 32) (h : RcOk s Q xs) :
  Cl B (.call 26 [.agg ⟨rcV k c q P R (.slice Q xs.length C)⟩]) s fun v s' => v = .bool (decide (mayR k c q xs)) ∧ Kn s s' := by
 refine Cl.enter Tryz.f26 fn26 rfl rfl rfl ?_
 refine run1 ?_
 refine mk_gen (cs := rcV k c q P R (.slice Q xs.length C)) (M := fun s' => Wo _ _ _ _ _ s' _) fun s1 r1 n1 k1 => ?_
 have w1 : Wf s1 := k1.wf w0
 have gd : good (some ⟨s.nx, 0, none⟩) := good_b
 have l0 : ldq s1 (qadd (some ⟨s.nx, 0, none⟩) 0) = some (I k) := r1.f1 rfl
 refine run1 ?_
 refine Wo.call rfl (Xc.call ok43 rfl) rfl ((lookOf_ok w1 (hT.kat.kn w0 k1)).mono ?_)
 rintro v s3 ⟨rfl, k3⟩
 have w3 : Wf s3 := k3.wf w1
 refine run1 ?_
 obtain ⟨e, d1, d2, d3, hV, hd1⟩ : ∃ (e : Int) (d1 d2 : Nat) (d3 : Bool), lookV k = [I e, nI d1, nI d2, .bool d3] ∧ ((k = 1 ∧ d1 = 0 ∧ d2 = 0) ∨ (k = 2 ∧ d1 = 1 ∧ d2 = 32) ∨ (k ≠ 1 ∧ k ≠ 2)) := by
  by_cases h1 : k = 1
  ·exact ⟨1, 0, 0, true, by rw [lookV, if_pos h1]; rfl, .inl ⟨h1, rfl, rfl⟩⟩
  ·by_cases h2 : k = 2
   ·exact ⟨2, 1, 32, false, by rw [lookV, if_neg h1, if_pos h2]; rfl, .inr (.inl ⟨h2, rfl, rfl⟩)⟩
   ·exact ⟨0, 0, 0, false, by rw [lookV, if_neg h1, if_neg h2]; rfl, .inr (.inr ⟨h1, h2⟩)⟩
 rw [hV]
 refine mk_gen (cs := [I 0, I 0, I 0, .bool false]) (M := fun s' => Wo _ _ _ _ _ s' _) fun s4 q4 m4 k4 => ?_
 have w4 : Wf s4 := k4.wf w3
 refine Wo.st rfl rfl rfl rfl rfl rfl rfl (by intro v hv; simp at hv; rcases hv with rfl | rfl | rfl | rfl <;> rfl) q4 (by decide) fun s5 q5 m5 k5 => ?_
 have q5' : Rw s5 s3.nx [I e, nI d1, nI d2, .bool d3] s3.nx := q5
 have k15 : Kn s1 s5 := k3.call (k4.app k5 (Nat.le_refl _))
 have w5 : Wf s5 := k15.wf w1
 have k05 : Kn s s5 := k1.call k15
 have g5 : good (some ⟨s3.nx, 0, none⟩) := good_b
 have r5 := r1.kp w1 k15 id
 have a1 : ldq s5 (qadd (some ⟨s.nx, 0, none⟩) 1) = some (I c) := r5.f1 rfl
 have a2 : ldq s5 (qadd (some ⟨s.nx, 0, none⟩) 2) = some (I q) := r5.f1 rfl
 have a5 : ldq s5 (qadd (some ⟨s.nx, 0, none⟩) 67) = some (.slice Q xs.length C) := r5.f1 (rc_chg hP hR)
 have f1 : ldq s5 (qadd (some ⟨s3.nx, 0, none⟩) 1) = some (nI d1) := q5'.f1 rfl
 have f2 : ldq s5 (qadd (some ⟨s3.nx, 0, none⟩) 2) = some (nI d2) := q5'.f1 rfl
 have hno : ¬ mayR k c q xs → Value.bool false = .bool (decide (mayR k c q xs)) := fun h => congrArg Value.bool (decide_eq_false h).symm
 by_cases hk : k = 1 ∨ k = 2
 ·by_cases hc1 : c < 1
  ·refine run1 ?_
   exact Lv.ret rfl ⟨hno fun h => by have := h.2.1; omega, k05⟩
  ·by_cases hc2 : (1099511627776 : Int) < c
   ·refine run1 ?_
    exact Lv.ret rfl ⟨hno fun h => by have := h.2.2.1; omega, k05⟩
   ·by_cases hq1 : q < (d1 : Int)
    ·refine run1 ?_
     refine Lv.ret rfl ⟨hno fun h => ?_, k05⟩
     rcases h.1 with ⟨h1, h2, _⟩ | ⟨h1, h2, _⟩ <;> omega
    ·by_cases hq2 : c < q
     ·refine run1 ?_
      exact Lv.ret rfl ⟨hno fun h => by have := h.2.2.2.1; omega, k05⟩
     ·by_cases hx : d2 < xs.length
      ·refine run1 ?_
       refine Lv.ret rfl ⟨hno fun h => ?_, k05⟩
       rcases h.1 with ⟨h1, _, h2⟩ | ⟨h1, _, h2⟩ <;> omega
      ·refine run1 ?_
       refine W.loop (α := Nat × St) (fun a => [(46, .slice Q xs.length C), (47, nI xs.length), (48, nI a.1)]) (fun _ => []) (fun a => a.2)
        (fun a => a.1 ≤ xs.length ∧ (∀ x ∈ xs.take a.1, chM x) ∧ Kn s5 a.2) (fun a => xs.length - a.1) (0, s5) ⟨Nat.zero_le _, fun x hx => by simp at hx, .refl⟩ (.cons rfl (.cons rfl (.cons rfl .nil))) rfl rfl (by have := h.len; show xs.length - 0 < _; omega) ?_
       rintro ⟨i, t0⟩ ⟨i1, i2, i3⟩
       simp only at i1 i2 i3
       dsimp only
       have wt : Wf t0 := i3.wf w5
       have kt : Kn s t0 := k05.call i3
       have hl := h.len
       by_cases hi : i < xs.length
       ·obtain ⟨gq, lx⟩ := (h.kn w0 kt).kid hi
        have hok := h.ok _ (List.getElem_mem hi)
        obtain ⟨x, ex⟩ : ∃ x, x = xs[i] := ⟨_, rfl⟩
        rw [← ex] at lx hok
        refine run1 ?_
        refine mk_gen (cs := [.slice none 0 0, .slice none 0 0, .bool false]) (M := fun s' => Wo _ _ _ _ _ s' _) fun t1 r2 n2 g1 => ?_
        have wt1 : Wf t1 := g1.wf wt
        refine Wo.st rfl rfl rfl rfl rfl rfl rfl hok.one r2 (by decide) fun t2 r3 n3 g2 => ?_
        have r3' : Rw t2 t0.nx (chc x) t0.nx := by
         have e : lov [Value.slice none 0 0, .slice none 0 0, .bool false] 0 (chc x) = chc x := lov_all rfl
         rw [← e]; exact r3
        have k2 : Kn t0 t2 := g1.app g2 (Nat.le_refl _)
        have wt2 : Wf t2 := k2.wf wt
        have lt2 := r3'.all (n := 3) rfl (by decide)
        refine run1 ?_
        refine Wo.call rfl (Xc.call ok44 rfl) rfl ((mayStand_ok wt2 (hok.kn w0 (kt.call k2))).mono ?_)
        rintro v t3 ⟨rfl, g3⟩
        by_cases hch : chM x
        ·refine run1 ?_
         refine rnd.n (i + 1, t3) ⟨hi, ?_, i3.call (k2.call g3)⟩ (by show xs.length - (i + 1) < xs.length - i; omega) (.cons rfl (.cons rfl (.cons rfl .nil))) rfl rfl
         intro y hy
         rw [List.take_succ_eq_append_getElem hi] at hy
         rcases List.mem_append.1 hy with hy | hy
         ·exact i2 y hy
         ·rw [List.mem_singleton.1 hy, ← ex]; exact hch
        ·refine run1 ?_
         refine Lv.ret rfl ⟨hno fun h => hch ?_, kt.call (k2.call g3)⟩
         rw [ex]; exact h.2.2.2.2 _ (List.getElem_mem hi)
       ·rw [List.take_of_length_le (by omega)] at i2
        refine run1 ?_
        refine Lv.ret rfl ⟨?_, kt⟩
        refine congrArg Value.bool (decide_eq_true ⟨?_, by omega, by omega, by omega, i2⟩).symm
        rcases hd1 with ⟨h1, h2, h3⟩ | ⟨h1, h2, h3⟩ | ⟨h1, h2⟩
        ·exact .inl ⟨h1, by omega, by omega⟩
        ·exact .inr ⟨h1, by omega, by omega⟩
        ·omega
 ·refine run1 ?_
  exact Lv.ret rfl ⟨hno fun h => by rcases h.1 with ⟨h, _⟩ | ⟨h, _⟩ <;> omega, k05⟩
end Go.Proofs.YteldpcbhfbgomaaGreatDoor
namespace Go.Sy
open Go Go.Ev
theorem Xv.neB {X : Fx} {env : Env} {s : St} {t t0 n : Nat} {z : Option (List Value)} {t' : TypeId} {x y : Operand} {a b : Bool} (ht : tk X.B.T t = some ⟨t0, n, .bl, z⟩) (hx : ev env x = some (.bool a)) (hy : ev env y = some (.bool b)) : Xv X (.binOp .neq t x y t') env s (.bool (!(a == b))) s := fun tm hf => by
 have hu : X.P.underlying t = some .bool := X.B.un ht
 show xBin X.P .neq t x y (opd tm x) (opd tm y) s = _
 rw [ev_opd hf hx, ev_opd hf hy]
 show eqA X.P .neq t x y (.bool a) (.bool b) s = _
 unfold eqA
 rw [show eqNil (X.P.underlying t) (.bool a) (.bool b) = none by rw [hu]; rfl]
 show ofPure X.P (do eqGuard .neq t x y (.bool a) (.bool b); binOp .neq t (.bool a) (.bool b)) s = _
 unfold ofPure
 rw [pureRun_bind, show pureRun X.P (eqGuard .neq t x y (.bool a) (.bool b)) = some () from rfl]
 show (match pureRun X.P (do pure (Value.bool (!(← Op.equal t (.bool a) (.bool b))))) with | some v => ofV v s | none => .no) = _
 have e : pureRun X.P (Op.equal t (.bool a) (.bool b)) = some (a == b) := by
  unfold Op.equal Op.maxDepth
  show pureRun X.P (Op.equalIn (9999 + 1) t (.bool a) (.bool b)) = _
  rw [Op.equalIn, pureRun_bind, pureRun_und hu]
  rfl
 rw [pureRun_bind, e]
 show okB (!(a == b)) s = _
 generalize (a == b) = b
 cases b <;> rfl
end Go.Sy
namespace Go.Proofs.YteldpcbhfbgomaaGreatDoor
open Go Go.Ev Go.Sy
set_option maxRecDepth 100000
variable {s : St}
set_option maxHeartbeats 3200000 in
theorem rmay_ok {k c q : Int} {P R : List Nat} {Q : Option Addr} {xs : List Ch} {C : Nat} (w0 : Wf s) (hP : P.length = 32) (hR : R.length = 32) (h : RcOk s Q xs) :
  Cl B (.call 20 [.agg ⟨rcV k c q P R (.slice Q xs.length C)⟩]) s fun v s' => v = .bool (decide (mayR k c q xs)) ∧ Kn s s' := by
 refine Cl.enter Tryz.f20 fn20 rfl rfl rfl ?_
 refine run1 ?_
 refine mk_gen (cs := rcV k c q P R (.slice Q xs.length C)) (M := fun s' => Wo _ _ _ _ _ s' _) fun s1 r1 n1 k1 => ?_
 have w1 : Wf s1 := k1.wf w0
 have gd : good (some ⟨s.nx, 0, none⟩) := good_b
 have a0 : ldq s1 (qadd (some ⟨s.nx, 0, none⟩) 0) = some (I k) := r1.f1 rfl
 have a1 : ldq s1 (qadd (some ⟨s.nx, 0, none⟩) 1) = some (I c) := r1.f1 rfl
 have a2 : ldq s1 (qadd (some ⟨s.nx, 0, none⟩) 2) = some (I q) := r1.f1 rfl
 have a5 : ldq s1 (qadd (some ⟨s.nx, 0, none⟩) 67) = some (.slice Q xs.length C) := r1.f1 (rc_chg hP hR)
 have hno : ¬ mayR k c q xs → Value.bool false = .bool (decide (mayR k c q xs)) := fun h => congrArg Value.bool (decide_eq_false h).symm
 have hl := h.len
 by_cases hk2 : k = 2
 ·have hk1 : k ≠ 1 := by omega
  by_cases hc1 : c < 1
  ·refine run1 ?_
   exact Lv.ret rfl ⟨hno fun h => by have := h.2.1; omega, k1⟩
  ·by_cases hc2 : (1099511627776 : Int) < c
   ·refine run1 ?_
    exact Lv.ret rfl ⟨hno fun h => by have := h.2.2.1; omega, k1⟩
   ·by_cases hq1 : q < 0
    ·refine run1 ?_
     exact Lv.ret rfl ⟨hno fun h => by rcases h.1 with ⟨_, h, _⟩ | ⟨_, h, _⟩ <;> omega, k1⟩
    ·by_cases hq2 : c < q
     ·refine run1 ?_
      exact Lv.ret rfl ⟨hno fun h => by have := h.2.2.2.1; omega, k1⟩
     ·by_cases hq0 : q = 0
      ·refine run1 ?_
       exact Lv.ret rfl ⟨hno fun h => by rcases h.1 with ⟨h, _, _⟩ | ⟨_, h, _⟩ <;> omega, k1⟩
      ·by_cases hx : 32 < xs.length
       ·refine run1 ?_
        exact Lv.ret rfl ⟨hno fun h => by rcases h.1 with ⟨h, _, _⟩ | ⟨_, _, h⟩ <;> omega, k1⟩
       ·refine run1 ?_
        refine W.loop (α := Nat × St) (fun a => [(1, .pointer (some ⟨s.nx, 0, none⟩)), (4, nI a.1)]) (fun _ => []) (fun a => a.2)
         (fun a => a.1 ≤ xs.length ∧ (∀ x ∈ xs.take a.1, chM x) ∧ Kn s1 a.2) (fun a => xs.length - a.1) (0, s1) ⟨Nat.zero_le _, fun x hx => by simp at hx, .refl⟩ (.cons rfl (.cons rfl .nil)) rfl rfl (by show xs.length - 0 < _; omega) ?_
        rintro ⟨i, t0⟩ ⟨i1, i2, i3⟩
        simp only at i1 i2 i3
        dsimp only
        have wt : Wf t0 := i3.wf w1
        have kt : Kn s t0 := k1.call i3
        have b5 : ldq t0 (qadd (some ⟨s.nx, 0, none⟩) 67) = some (.slice Q xs.length C) := (r1.kp w1 i3 id).f1 (rc_chg hP hR)
        by_cases hi : i < xs.length
        ·obtain ⟨gq, lx⟩ := (h.kn w0 kt).kid hi
         have hok := h.ok _ (List.getElem_mem hi)
         obtain ⟨x, ex⟩ : ∃ x, x = xs[i] := ⟨_, rfl⟩
         rw [← ex] at lx hok
         have hone := hok.one
         obtain ⟨⟨qk, ck, ek, bk1, bk2⟩, ⟨qv, cv, ev1, bv1, bv2⟩, _, _⟩ := hok
         refine run1 ?_
         refine mk_gen (cs := [.slice none 0 0, .slice none 0 0, .bool false]) (M := fun s' => Wo _ _ _ _ _ s' _) fun t1 r2 n2 g1 => ?_
         have wt1 : Wf t1 := g1.wf wt
         refine Wo.st rfl rfl rfl rfl rfl rfl rfl hone r2 (by decide) fun t2 r3 n3 g2 => ?_
         have r3' : Rw t2 t0.nx (chc x) t0.nx := by
          have e : lov [Value.slice none 0 0, .slice none 0 0, .bool false] 0 (chc x) = chc x := lov_all rfl
          rw [← e]; exact r3
         have k2 : Kn t0 t2 := g1.app g2 (Nat.le_refl _)
         have gd2 : good (some ⟨t0.nx, 0, none⟩) := good_b
         have c0 : ldq t2 (qadd (some ⟨t0.nx, 0, none⟩) 0) = some (.slice qk x.k.length ck) := by rw [← ek]; exact r3'.f1 rfl
         have c1 : ldq t2 (qadd (some ⟨t0.nx, 0, none⟩) 1) = some (.slice qv x.v.length cv) := by rw [← ev1]; exact r3'.f1 rfl
         have c2 : ldq t2 (qadd (some ⟨t0.nx, 0, none⟩) 2) = some (.bool x.g) := r3'.f1 rfl
         have hbad : ¬ chM x → Value.bool false = .bool (decide (mayR k c q xs)) := fun hch => hno fun h => hch (by rw [ex]; exact h.2.2.2.2 _ (List.getElem_mem hi))
         by_cases h1 : 32 < x.k.length
         ·refine run1 ?_
          exact Lv.ret rfl ⟨hbad fun h => by have := h.1; omega, kt.call k2⟩
         ·by_cases h2 : 256 < x.v.length
          ·refine run1 ?_
           exact Lv.ret rfl ⟨hbad fun h => by have := h.2.1; omega, kt.call k2⟩
          ·refine run1 ?_
           refine Wo.val (by first | rfl | exact gT' rfl h2) (Xv.neB rfl rfl rfl) rfl ?_
           by_cases hg : x.g = decide (x.v.length = 0)
           ·rw [show (!(x.g == decide (x.v.length = 0))) = false by rw [hg, beq_self_eq_true]; rfl]
            refine run1 ?_
            refine rnd.n (i + 1, t2) ⟨hi, ?_, i3.call k2⟩ (by show xs.length - (i + 1) < xs.length - i; omega) (.cons rfl (.cons rfl .nil)) rfl rfl
            intro y hy
            rw [List.take_succ_eq_append_getElem hi] at hy
            rcases List.mem_append.1 hy with hy | hy
            ·exact i2 y hy
            ·rw [List.mem_singleton.1 hy, ← ex]; exact ⟨by omega, by omega, hg⟩
           ·rw [show (!(x.g == decide (x.v.length = 0))) = true by rw [beq_eq_false_iff_ne.2 hg]; rfl]
            refine run1 ?_
            exact Lv.ret rfl ⟨hbad fun h => hg h.2.2, kt.call k2⟩
        ·rw [List.take_of_length_le (by omega)] at i2
         refine run1 ?_
         refine Lv.ret rfl ⟨?_, kt⟩
         exact congrArg Value.bool (decide_eq_true ⟨.inr ⟨by omega, by omega, by omega⟩, by omega, by omega, by omega, i2⟩).symm
 ·by_cases hk1' : k = 1
  ·have hk1 : ¬ k ≠ 1 := not_not_intro hk1'
   by_cases hc1 : c < 1
   ·refine run1 ?_
    exact Lv.ret rfl ⟨hno fun h => by have := h.2.1; omega, k1⟩
   ·by_cases hc2 : (1099511627776 : Int) < c
    ·refine run1 ?_
     exact Lv.ret rfl ⟨hno fun h => by have := h.2.2.1; omega, k1⟩
    ·by_cases hq1 : q < 0
     ·refine run1 ?_
      exact Lv.ret rfl ⟨hno fun h => by rcases h.1 with ⟨_, h, _⟩ | ⟨_, h, _⟩ <;> omega, k1⟩
     ·by_cases hq2 : c < q
      ·refine run1 ?_
       exact Lv.ret rfl ⟨hno fun h => by have := h.2.2.2.1; omega, k1⟩
      ·by_cases hx0 : 0 < xs.length
       ·refine run1 ?_
        exact Lv.ret rfl ⟨hno fun h => by rcases h.1 with ⟨_, _, h⟩ | ⟨h, _, _⟩ <;> omega, k1⟩
       ·have hx : ¬ 32 < xs.length := by omega
        refine run1 ?_
        refine W.loop (α := Nat × St) (fun a => [(1, .pointer (some ⟨s.nx, 0, none⟩)), (4, nI a.1)]) (fun _ => []) (fun a => a.2)
         (fun a => a.1 ≤ xs.length ∧ (∀ x ∈ xs.take a.1, chM x) ∧ Kn s1 a.2) (fun a => xs.length - a.1) (0, s1) ⟨Nat.zero_le _, fun x hx => by simp at hx, .refl⟩ (.cons rfl (.cons rfl .nil)) rfl rfl (by show xs.length - 0 < _; omega) ?_
        rintro ⟨i, t0⟩ ⟨i1, i2, i3⟩
        simp only at i1 i2 i3
        dsimp only
        have wt : Wf t0 := i3.wf w1
        have kt : Kn s t0 := k1.call i3
        have b5 : ldq t0 (qadd (some ⟨s.nx, 0, none⟩) 67) = some (.slice Q xs.length C) := (r1.kp w1 i3 id).f1 (rc_chg hP hR)
        by_cases hi : i < xs.length
        ·obtain ⟨gq, lx⟩ := (h.kn w0 kt).kid hi
         have hok := h.ok _ (List.getElem_mem hi)
         obtain ⟨x, ex⟩ : ∃ x, x = xs[i] := ⟨_, rfl⟩
         rw [← ex] at lx hok
         have hone := hok.one
         obtain ⟨⟨qk, ck, ek, bk1, bk2⟩, ⟨qv, cv, ev1, bv1, bv2⟩, _, _⟩ := hok
         refine run1 ?_
         refine mk_gen (cs := [.slice none 0 0, .slice none 0 0, .bool false]) (M := fun s' => Wo _ _ _ _ _ s' _) fun t1 r2 n2 g1 => ?_
         have wt1 : Wf t1 := g1.wf wt
         refine Wo.st rfl rfl rfl rfl rfl rfl rfl hone r2 (by decide) fun t2 r3 n3 g2 => ?_
         have r3' : Rw t2 t0.nx (chc x) t0.nx := by
          have e : lov [Value.slice none 0 0, .slice none 0 0, .bool false] 0 (chc x) = chc x := lov_all rfl
          rw [← e]; exact r3
         have k2 : Kn t0 t2 := g1.app g2 (Nat.le_refl _)
         have gd2 : good (some ⟨t0.nx, 0, none⟩) := good_b
         have c0 : ldq t2 (qadd (some ⟨t0.nx, 0, none⟩) 0) = some (.slice qk x.k.length ck) := by rw [← ek]; exact r3'.f1 rfl
         have c1 : ldq t2 (qadd (some ⟨t0.nx, 0, none⟩) 1) = some (.slice qv x.v.length cv) := by rw [← ev1]; exact r3'.f1 rfl
         have c2 : ldq t2 (qadd (some ⟨t0.nx, 0, none⟩) 2) = some (.bool x.g) := r3'.f1 rfl
         have hbad : ¬ chM x → Value.bool false = .bool (decide (mayR k c q xs)) := fun hch => hno fun h => hch (by rw [ex]; exact h.2.2.2.2 _ (List.getElem_mem hi))
         by_cases h1 : 32 < x.k.length
         ·refine run1 ?_
          exact Lv.ret rfl ⟨hbad fun h => by have := h.1; omega, kt.call k2⟩
         ·by_cases h2 : 256 < x.v.length
          ·refine run1 ?_
           exact Lv.ret rfl ⟨hbad fun h => by have := h.2.1; omega, kt.call k2⟩
          ·refine run1 ?_
           refine Wo.val (by first | rfl | exact gT' rfl h2) (Xv.neB rfl rfl rfl) rfl ?_
           by_cases hg : x.g = decide (x.v.length = 0)
           ·rw [show (!(x.g == decide (x.v.length = 0))) = false by rw [hg, beq_self_eq_true]; rfl]
            refine run1 ?_
            refine rnd.n (i + 1, t2) ⟨hi, ?_, i3.call k2⟩ (by show xs.length - (i + 1) < xs.length - i; omega) (.cons rfl (.cons rfl .nil)) rfl rfl
            intro y hy
            rw [List.take_succ_eq_append_getElem hi] at hy
            rcases List.mem_append.1 hy with hy | hy
            ·exact i2 y hy
            ·rw [List.mem_singleton.1 hy, ← ex]; exact ⟨by omega, by omega, hg⟩
           ·rw [show (!(x.g == decide (x.v.length = 0))) = true by rw [beq_eq_false_iff_ne.2 hg]; rfl]
            refine run1 ?_
            exact Lv.ret rfl ⟨hbad fun h => hg h.2.2, kt.call k2⟩
        ·rw [List.take_of_length_le (by omega)] at i2
         refine run1 ?_
         refine Lv.ret rfl ⟨?_, kt⟩
         exact congrArg Value.bool (decide_eq_true ⟨.inl ⟨by omega, by omega, by omega⟩, by omega, by omega, by omega, i2⟩).symm
  ·have hk1 : k ≠ 1 := hk1'
   refine run1 ?_
   exact Lv.ret rfl ⟨hno fun h => by rcases h.1 with ⟨h, _⟩ | ⟨h, _⟩ <;> omega, k1⟩
end Go.Proofs.YteldpcbhfbgomaaGreatDoor
