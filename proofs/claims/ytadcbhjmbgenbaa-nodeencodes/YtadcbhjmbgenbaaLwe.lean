import Derived.Test.YtadcbhjmbgenbaaCutLe
import Derived.Test.YtadcbhjmbgenbaaYne
import Derived.Test.YtadcbhjmbgenbaaLnne
import Derived.Test.YtadcbhjmbgenbaaSae
/-
  NodeRound: laws of one operation.
-/
namespace Go.Proofs.Ytadcbhjmbgenbaa
open Go.RowKit

theorem eNum : ∀ args w, (callFunc 9 args).run Try.prog w = .ok (.enter 9 args) w := enters_of Try.func9 (by kernel_rfl) rfl
theorem eSame : ∀ args w, (callFunc 13 args).run Try.prog w = .ok (.enter 13 args) w := enters_of Try.func13 (by kernel_rfl) rfl
theorem vb_view {w : World} {a : Option Addr} {n c : Nat} {s : List Nat} (h : Vb w (.slice a n c) s) : ∃ b off, Vw w a b off s ∧ (a = none → c = 0) := by
  obtain ⟨a', b, off, c', e, hv, h1, h2, h3⟩ := h
  injection e with e1 e2 e3
  subst e1 e3
  exact ⟨b, off, hv, h2⟩
section
variable {ops : Array Oper} {S : World → Prop} {o : Oper} {a : Act}
theorem y_eqlIr (hw : Region.wanted o (yielded ops a.tmps) = true) (x y : Operand) (ho : o.op = .binOp .eql 3 x y 3) (d d' : Int) (hx : a.eval x = .int .i64 d) (hy : a.eval y = .int .i64 d') (r : Bool) (hr : (d == d') = r) : YieldsIf Try.prog ops S o (.bool r) a :=
  .inl ⟨hw, fun w _ => by
    unfold execOp
    simp only [ho, hx, hy]
    subst hr
    go_simp⟩
theorem y_eqlSr (hw : Region.wanted o (yielded ops a.tmps) = true) (x y : Operand) (ho : o.op = .binOp .eql 9 x y 9) (s s' : ByteArray) (hx : a.eval x = .string s) (hy : a.eval y = .string s') (r : Bool) (hr : (s.toList == s'.toList) = r) : YieldsIf Try.prog ops S o (.bool r) a :=
  .inl ⟨hw, fun w _ => by
    unfold execOp
    simp only [ho, hx, hy]
    subst hr
    go_simp⟩
theorem y_neqBs (hw : Region.wanted o (yielded ops a.tmps) = true) (x y : Operand) (ho : o.op = .binOp .neq 4 x y 4) (b : Bool) (hx : a.eval x = .bool b) (hy : a.eval y = .bool b) : YieldsIf Try.prog ops S o (.bool false) a :=
  .inl ⟨hw, fun w _ => by
    have e : (b != b) = false := by simp
    unfold execOp
    simp only [ho, hx, hy]
    go_simp⟩
end
end Go.Proofs.Ytadcbhjmbgenbaa

/-
  Laws of one operation in a drawn region, for the reference.
-/
namespace Go.Proofs.Ytadcbhjmbgenbaa
open Go.RowKit

section
variable {ops : Array Oper} {S : World → Prop} {o : Oper} {a : Act}
theorem y_len22 (hw : Region.wanted o (yielded ops a.tmps) = true) (x : Operand) (ho : o.op = .call { callee := .builtin .len, args := #[x], argTypes := #[22] }) (p : Option Addr) (n c : Nat) (hx : a.eval x = .slice p n c) : YieldsIf Try.prog ops S o (.int .i64 (n : Int)) a :=
  .inl ⟨hw, fun w _ => by
    unfold execOp
    simp only [ho, resolve, List.map_toArray, List.map_cons, List.map_nil, hx]
    go_simp⟩
theorem y_neqIr (hw : Region.wanted o (yielded ops a.tmps) = true) (x y : Operand) (ho : o.op = .binOp .neq 3 x y 3) (d d' : Int) (hx : a.eval x = .int .i64 d) (hy : a.eval y = .int .i64 d') (r : Bool) (hr : (d != d') = r) : YieldsIf Try.prog ops S o (.bool r) a :=
  .inl ⟨hw, fun w _ => by
    unfold execOp
    simp only [ho, hx, hy]
    subst hr
    go_simp⟩
theorem y_lssIr (hw : Region.wanted o (yielded ops a.tmps) = true) (x y : Operand) (ho : o.op = .binOp .lss 3 x y 3) (d d' : Int) (hx : a.eval x = .int .i64 d) (hy : a.eval y = .int .i64 d') (r : Bool) (hr : decide (d < d') = r) : YieldsIf Try.prog ops S o (.bool r) a :=
  .inl ⟨hw, fun w _ => by
    unfold execOp
    simp only [ho, hx, hy]
    subst hr
    go_simp⟩
theorem y_geqIr (hw : Region.wanted o (yielded ops a.tmps) = true) (x y : Operand) (ho : o.op = .binOp .geq 3 x y 3) (d d' : Int) (hx : a.eval x = .int .i64 d) (hy : a.eval y = .int .i64 d') (r : Bool) (hr : decide (d' ≤ d) = r) : YieldsIf Try.prog ops S o (.bool r) a :=
  .inl ⟨hw, fun w _ => by
    unfold execOp
    simp only [ho, hx, hy]
    subst hr
    go_simp⟩
theorem y_eqlBr (hw : Region.wanted o (yielded ops a.tmps) = true) (x y : Operand) (ho : o.op = .binOp .eql 4 x y 4) (d d' : Bool) (hx : a.eval x = .bool d) (hy : a.eval y = .bool d') (r : Bool) (hr : (d == d') = r) : YieldsIf Try.prog ops S o (.bool r) a :=
  .inl ⟨hw, fun w _ => by
    unfold execOp
    simp only [ho, hx, hy]
    subst hr
    go_simp⟩
theorem y_eqlHr (hw : Region.wanted o (yielded ops a.tmps) = true) (x y : Operand) (ho : o.op = .binOp .eql 24 x y 24) (u v : Array Value) (hx : a.eval x = .agg u) (hy : a.eval y = .agg v) (r : Bool) (he : ∀ w0 : World, (Op.equalIn 10000 24 (.agg u) (.agg v)).run Try.prog w0 = .ok r w0) : YieldsIf Try.prog ops S o (.bool r) a :=
  .inl ⟨hw, fun w _ => by
    have e := he w
    unfold execOp
    simp only [ho, hx, hy]
    go_simp⟩
end
end Go.Proofs.Ytadcbhjmbgenbaa

/-
  cairnlaw07: asWas. (Written by gen_lw.py.)
-/
namespace Go.Proofs.Ytadcbhjmbgenbaa
open Go.RowKit

theorem eAsw : ∀ args w, (callFunc 21 args).run Try.prog w = .ok (.enter 21 args) w := enters_of Try.func21 (by kernel_rfl) rfl
set_option maxRecDepth 100000 in
set_option maxHeartbeats 6400000 in
theorem asWas_any {P : Nat → Prop} {w : World} {n : Nd} {u1 u : Nv} (h1 : Nry P w n u1) (h : Nin w n u) : Calls Try.prog 24 #[.agg (nc n u1).toArray, .agg (nc n u).toArray] w fun e w' => e = .returned (.bool true) ∧ Below w.heap.size w w' := by
  have hW := h.W
  have B2 : Below w.heap.size w ((w.alloc (.cells (nc n u1).toArray 29)).alloc (.cells (nc n u).toArray 29)) := (below_alloc _ _).alloc (by simp) _
  have nb1 : Nb ((w.alloc (.cells (nc n u1).toArray 29)).alloc (.cells (nc n u).toArray 29)) w.heap.size n u1 := (nb_new hW w u1).keep (below_alloc _ _)
  have nb2 : Nb ((w.alloc (.cells (nc n u1).toArray 29)).alloc (.cells (nc n u).toArray 29)) (w.heap.size + 1) n u := by
    have := nb_new hW (w.alloc (.cells (nc n u1).toArray 29)) u
    rw [World.size_alloc] at this
    exact this
  have HA : Hid (∀ w' {v v' : Value} {s : List Nat}, Below w.heap.size w w' → Ry P w v s → Vb w v' s → Calls Try.prog 21 #[v, v'] w' fun e w'' => e = .returned (.bool true) ∧ Below w'.heap.size w' w'') := fun w' _ _ _ k r b => aswas3_any (Rel.keep b k) (r.below k)
  have HN : Hid (Nry P w n u1 ∧ Nin w n u ∧ n.W ∧ Below w.heap.size w ((w.alloc (.cells (nc n u1).toArray 29)).alloc (.cells (nc n u).toArray 29))) := ⟨h1, h, hW, B2⟩
  have HB : Hid (Nb ((w.alloc (.cells (nc n u1).toArray 29)).alloc (.cells (nc n u).toArray 29)) w.heap.size n u1 ∧ Nb ((w.alloc (.cells (nc n u1).toArray 29)).alloc (.cells (nc n u).toArray 29)) (w.heap.size + 1) n u) := ⟨nb1, nb2⟩
  have HC : Hid (∀ w', Below ((w.alloc (.cells (nc n u1).toArray 29)).alloc (.cells (nc n u).toArray 29)).heap.size ((w.alloc (.cells (nc n u1).toArray 29)).alloc (.cells (nc n u).toArray 29)) w' → w'.cell? ⟨w.heap.size, 2, none⟩ = some u1.v ∧ w'.cell? ⟨w.heap.size + 1, 2, none⟩ = some u.v ∧ w'.cell? ⟨w.heap.size, 37, none⟩ = some u1.x ∧ w'.cell? ⟨w.heap.size + 1, 37, none⟩ = some u.x) := fun w' k => by
    have a := nb1.keep k
    have b := nb2.keep k
    have x1 := (rng_ref hW.next.1 a.x).2.2
    have x2 := (rng_ref hW.next.1 b.x).2.2
    exact ⟨a.v, b.v, x1, x2⟩
  have c1 := nb1.p
  have c2 := nb2.p
  have K1 := HA.out _ B2 h1.p h.p
  clear h1 h B2 nb1 nb2
  go_enter Try.func24, Try.ntmps24
  go_wp2_with (first
    | (go_at_call 21; go_loud (refine K1.mono ?_; rintro e w3 ⟨rfl, b3⟩; obtain ⟨d1, d2, -, -⟩ := HC.out w3 b3; have K2 := HA.out w3 (ch HN.out.2.2.2 b3) HN.out.1.v HN.out.2.1.v; have H3 : Hid (Below ((w.alloc (.cells (nc n u1).toArray 29)).alloc (.cells (nc n u).toArray 29)).heap.size ((w.alloc (.cells (nc n u1).toArray 29)).alloc (.cells (nc n u).toArray 29)) w3) := b3; clear b3 K1 c1 c2))
    | (go_at_call 21; go_loud (refine K2.mono ?_; rintro e w4 ⟨rfl, b4⟩; have B4 := ch H3.out b4; obtain ⟨-, -, x1, x2⟩ := HC.out w4 B4; have K3 := HA.out w4 (ch HN.out.2.2.2 B4) HN.out.1.x HN.out.2.1.x; have H4 : Hid (Below ((w.alloc (.cells (nc n u1).toArray 29)).alloc (.cells (nc n u).toArray 29)).heap.size ((w.alloc (.cells (nc n u1).toArray 29)).alloc (.cells (nc n u).toArray 29)) w4) := B4; clear b4 B4 K2 d1 d2 H3))
    | (go_at_call 21; go_loud (refine K3.mono ?_; rintro e w5 ⟨rfl, b5⟩; have H5 : Hid (Below ((w.alloc (.cells (nc n u1).toArray 29)).alloc (.cells (nc n u).toArray 29)).heap.size ((w.alloc (.cells (nc n u1).toArray 29)).alloc (.cells (nc n u).toArray 29)) w5) := ch H4.out b5; clear b5 K3 x1 x2 H4)))
  go_loopg [5, 6] 16 (fun gg b k wr => ∃ (i : Nat), i ≤ 16 ∧ gg = 16 - i ∧ b = .bool true ∧ k = .int .i64 i ∧ Below ((w.alloc (.cells (nc n u1).toArray 29)).alloc (.cells (nc n u).toArray 29)).heap.size ((w.alloc (.cells (nc n u1).toArray 29)).alloc (.cells (nc n u).toArray 29)) wr)
  case atStart => exact ⟨0, by omega, rfl, rfl, rfl, H5.out⟩
  case round =>
    obtain ⟨i, hi, rfl, rfl, rfl, hb⟩ := hrel
    clear H5
    by_cases hin : i < 16
    · have i1 : (i : Int) < 16 := by omega
      obtain ⟨r, hr⟩ : ∃ r, n.kids[i]? = some r := ⟨_, List.getElem?_eq_getElem (by rw [HN.out.2.2.1.kids]; exact hin)⟩
      have HS : Hid (∀ w', Below wr.heap.size wr w' → w'.cell? ⟨w.heap.size, 38 + i * 34 + 33, none⟩ = some (u1.k i) ∧ w'.cell? ⟨w.heap.size + 1, 38 + i * 34 + 33, none⟩ = some (u.k i)) := fun w' k => by
        have hh := (HN.out.2.2.1.kid r (List.mem_of_getElem? hr)).1
        exact ⟨(rng_ref hh ((HB.out.1.keep (ch hb k)).kid hr)).2.2, (rng_ref hh ((HB.out.2.keep (ch hb k)).kid hr)).2.2⟩
      have HKa : Hid (∀ w', Below wr.heap.size wr w' → Calls Try.prog 21 #[u1.k i, u.k i] w' fun e w'' => e = .returned (.bool true) ∧ Below w'.heap.size w' w'') := fun w' k => HA.out w' (ch HN.out.2.2.2 (ch hb k)) (HN.out.1.k hr) (HN.out.2.1.k hr)
      have HX : Hid (Below ((w.alloc (.cells (nc n u1).toArray 29)).alloc (.cells (nc n u).toArray 29)).heap.size ((w.alloc (.cells (nc n u1).toArray 29)).alloc (.cells (nc n u).toArray 29)) wr) := hb
      clear hr hb
      go_upto_region 5 with fail
      refine wp_region_held_drew (S := fun w' => Below wr.heap.size wr w') (by kernel_rfl) ((Below.drew (Below.refl _ _))) ?_
      intro hS
      change wpAnyH _ _ _ _ _ 15 _ _ _
      refine wpAnyH_take (i := 0) (v := (.bool true)) (by simp only [List.getElem?_toArray, List.getElem?_cons_zero]; rfl) (by kernel_rfl) (by kernel_rfl) (by kernel_rfl) (by exact fun _ _ _ h => h) (y_move (by kernel_rfl) _ rfl _ rfl) hS ?_
      try simp only [Act.put, List.setIfInBounds_toArray, List.set_cons_zero, List.set_cons_succ]
      refine wpAnyH_take (i := 1) (v := (.bool true)) (by simp only [List.getElem?_toArray, List.getElem?_cons_zero, List.getElem?_cons_succ]; rfl) (by kernel_rfl) (by kernel_rfl) (by kernel_rfl) (by exact fun _ _ _ h => h) (y_move (by kernel_rfl) _ rfl _ rfl) hS ?_
      try simp only [Act.put, List.setIfInBounds_toArray, List.set_cons_zero, List.set_cons_succ]
      refine wpAnyH_take (i := 2) (v := (.int .i64 i)) (by simp only [List.getElem?_toArray, List.getElem?_cons_zero, List.getElem?_cons_succ]; rfl) (by kernel_rfl) (by kernel_rfl) (by kernel_rfl) (by exact fun _ _ _ h => h) (y_move (by kernel_rfl) _ rfl _ rfl) hS ?_
      try simp only [Act.put, List.setIfInBounds_toArray, List.set_cons_zero, List.set_cons_succ]
      refine wpAnyH_take (i := 3) (v := (.pointer (some ⟨w.heap.size, 38, none⟩))) (by simp only [List.getElem?_toArray, List.getElem?_cons_zero, List.getElem?_cons_succ]; rfl) (by kernel_rfl) (by kernel_rfl) (by kernel_rfl) (by exact fun _ _ _ h => h) (y_f29k (by kernel_rfl) _ rfl _ rfl) hS ?_
      try simp only [Act.put, List.setIfInBounds_toArray, List.set_cons_zero, List.set_cons_succ]
      refine wpAnyH_take (i := 4) (v := (.pointer (some ⟨w.heap.size, 38 + i * 34, none⟩))) (by simp only [List.getElem?_toArray, List.getElem?_cons_zero, List.getElem?_cons_succ]; rfl) (by kernel_rfl) (by kernel_rfl) (by kernel_rfl) (by exact fun _ _ _ h => h) (y_i27 (by kernel_rfl) _ _ rfl _ _ i rfl rfl hin) hS ?_
      try simp only [Act.put, List.setIfInBounds_toArray, List.set_cons_zero, List.set_cons_succ]
      refine wpAnyH_take (i := 5) (v := (.pointer (some ⟨w.heap.size, 38 + i * 34 + 33, none⟩))) (by simp only [List.getElem?_toArray, List.getElem?_cons_zero, List.getElem?_cons_succ]; rfl) (by kernel_rfl) (by kernel_rfl) (by kernel_rfl) (by exact fun _ _ _ h => h) (y_f26b (by kernel_rfl) _ rfl _ _ rfl) hS ?_
      try simp only [Act.put, List.setIfInBounds_toArray, List.set_cons_zero, List.set_cons_succ]
      refine wpAnyH_take (i := 6) (v := (u1.k i)) (by simp only [List.getElem?_toArray, List.getElem?_cons_zero, List.getElem?_cons_succ]; rfl) (by kernel_rfl) (by kernel_rfl) (by kernel_rfl) (by exact fun _ _ _ h => h) (y_loadB (by kernel_rfl) _ rfl _ _ rfl _ (fun w' hs => (HS.out w' hs).1)) hS ?_
      try simp only [Act.put, List.setIfInBounds_toArray, List.set_cons_zero, List.set_cons_succ]
      refine wpAnyH_take (i := 7) (v := (.int .i64 i)) (by simp only [List.getElem?_toArray, List.getElem?_cons_zero, List.getElem?_cons_succ]; rfl) (by kernel_rfl) (by kernel_rfl) (by kernel_rfl) (by exact fun _ _ _ h => h) (y_move (by kernel_rfl) _ rfl _ rfl) hS ?_
      try simp only [Act.put, List.setIfInBounds_toArray, List.set_cons_zero, List.set_cons_succ]
      refine wpAnyH_take (i := 8) (v := (.pointer (some ⟨w.heap.size + 1, 38, none⟩))) (by simp only [List.getElem?_toArray, List.getElem?_cons_zero, List.getElem?_cons_succ]; rfl) (by kernel_rfl) (by kernel_rfl) (by kernel_rfl) (by exact fun _ _ _ h => h) (y_f29k (by kernel_rfl) _ rfl _ rfl) hS ?_
      try simp only [Act.put, List.setIfInBounds_toArray, List.set_cons_zero, List.set_cons_succ]
      refine wpAnyH_take (i := 9) (v := (.pointer (some ⟨w.heap.size + 1, 38 + i * 34, none⟩))) (by simp only [List.getElem?_toArray, List.getElem?_cons_zero, List.getElem?_cons_succ]; rfl) (by kernel_rfl) (by kernel_rfl) (by kernel_rfl) (by exact fun _ _ _ h => h) (y_i27 (by kernel_rfl) _ _ rfl _ _ i rfl rfl hin) hS ?_
      try simp only [Act.put, List.setIfInBounds_toArray, List.set_cons_zero, List.set_cons_succ]
      refine wpAnyH_take (i := 10) (v := (.pointer (some ⟨w.heap.size + 1, 38 + i * 34 + 33, none⟩))) (by simp only [List.getElem?_toArray, List.getElem?_cons_zero, List.getElem?_cons_succ]; rfl) (by kernel_rfl) (by kernel_rfl) (by kernel_rfl) (by exact fun _ _ _ h => h) (y_f26b (by kernel_rfl) _ rfl _ _ rfl) hS ?_
      try simp only [Act.put, List.setIfInBounds_toArray, List.set_cons_zero, List.set_cons_succ]
      refine wpAnyH_take (i := 11) (v := (u.k i)) (by simp only [List.getElem?_toArray, List.getElem?_cons_zero, List.getElem?_cons_succ]; rfl) (by kernel_rfl) (by kernel_rfl) (by kernel_rfl) (by exact fun _ _ _ h => h) (y_loadB (by kernel_rfl) _ rfl _ _ rfl _ (fun w' hs => (HS.out w' hs).2)) hS ?_
      try simp only [Act.put, List.setIfInBounds_toArray, List.set_cons_zero, List.set_cons_succ]
      refine wpAnyH_ready (rs := [12]) (by kernel_rfl) (by simp) ?_
      refine AllReadyH.cons (by simp only [List.getElem?_toArray, List.getElem?_cons_zero, List.getElem?_cons_succ]; rfl) (fun K hK => ?_) AllReadyH.nil
      refine r_call2 _ _ _ _ rfl (by kernel_rfl) _ _ rfl rfl eAsw ?_
      refine (HKa.out _ hS).mono ?_
      rintro _ w7 ⟨rfl, b7⟩
      refine ⟨_, rfl, ?_⟩
      refine hK.out _ _ (ch hS b7) (fun hS => ?_)
      clear b7
      clear hK K
      try simp only [Act.put, List.setIfInBounds_toArray, List.set_cons_zero, List.set_cons_succ]
      refine wpAnyH_take (i := 13) (v := (.bool true)) (by simp only [List.getElem?_toArray, List.getElem?_cons_zero, List.getElem?_cons_succ]; rfl) (by kernel_rfl) (by kernel_rfl) (by kernel_rfl) (by exact fun _ _ _ h => h) (y_pick_t (by kernel_rfl) _ _ _ rfl _ rfl rfl) hS ?_
      try simp only [Act.put, List.setIfInBounds_toArray, List.set_cons_zero, List.set_cons_succ]
      refine wpAnyH_take (i := 14) (v := (.bool true)) (by simp only [List.getElem?_toArray, List.getElem?_cons_zero, List.getElem?_cons_succ]; rfl) (by kernel_rfl) (by kernel_rfl) (by kernel_rfl) (by exact fun _ _ _ h => h) (y_assign (by kernel_rfl) _ rfl _ rfl) hS ?_
      try simp only [Act.put, List.setIfInBounds_toArray, List.set_cons_zero, List.set_cons_succ]
      refine wpAnyH_done (by kernel_rfl) ?_ _
      have H9 : Hid (Below ((w.alloc (.cells (nc n u1).toArray 29)).alloc (.cells (nc n u).toArray 29)).heap.size ((w.alloc (.cells (nc n u1).toArray 29)).alloc (.cells (nc n u).toArray 29)) w7) := ch HX.out hS
      clear hS
      go_wp2_with fail
      go_roundg (16 - (i + 1))
      case measure => omega
      case rel => exact ⟨i + 1, hin, rfl, rfl, by go_num, H9.out⟩
    · have i1 : ¬ (i : Int) < 16 := by omega
      obtain rfl : i = 16 := by omega
      have nb1 := HB.out.1.keep hb
      have nb2 := HB.out.2.keep hb
      have KS := same_loop ((HN.out.1.nin.keep HN.out.2.2.2).keep hb) ((HN.out.2.1.keep HN.out.2.2.2).keep hb)
      have HX : Hid (Below w.heap.size w wr) := ch HN.out.2.2.2 hb
      clear hb
      go_wp2_with (first
        | refine wpList_ld29 (by kernel_rfl) _ (by rfl) w.heap.size n u1 hW nb1 (by rfl) ?_
        | refine wpList_ld29 (by kernel_rfl) _ (by rfl) (w.heap.size + 1) n u hW nb2 (by rfl) ?_
        | (go_at_call 13; go_loud (refine KS.mono ?_; rintro e w7 ⟨rfl, b7⟩; simp only [decide_true]; have H7 : Hid (Below w.heap.size w w7) := ch HX.out b7; clear b7 KS)))
      go_ret
      exact ⟨rfl, H7.out⟩
end Go.Proofs.Ytadcbhjmbgenbaa
