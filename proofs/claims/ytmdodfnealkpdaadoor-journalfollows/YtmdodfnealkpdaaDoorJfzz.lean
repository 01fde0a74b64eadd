import Derived.Test.YtmdodfnealkpdaaDoorWgzz
import Derived.Test.YtmdodfnealkpdaaDoorBbzz
/-
  journal.Follows and the reference's: over any head, any record.
-/
namespace Go.Proofs.YtmdodfnealkpdaaDoor
open Go Go.Ev Go.Sy
set_option maxRecDepth 100000
variable {s : St}
theorem HH : HT B.P 23 5 := ⟨B.un (t := 23) rfl, B.un (t := 5) rfl, B.sz (t := 5) rfl⟩
theorem HG : B.P.eqGuardType B.P.depth 23 = false := by kernel_rfl
def KN : List Value := [.int .i64 (.ofNat 1), .int .i64 (.ofNat 0), .int .i64 (.ofNat 0), .bool true, .int .i64 (.ofNat 2), .int .i64 (.ofNat 1), .int .i64 (.ofNat 32), .bool false]
abbrev I (z : Int) : Value := .int .i64 z
/-- A head, a record. -/
def hdV (c q : Int) (T R : List Nat) : List Value := I c :: I q :: (T.map nB ++ R.map nB)
def rcV (k c q : Int) (P R : List Nat) (x : Value) : List Value := I k :: I c :: I q :: (P.map nB ++ (R.map nB ++ [x]))
def In64 (z : Int) : Prop := -9223372036854775808 ≤ z ∧ z < 9223372036854775808
theorem wr64 {z : Int} (h : -9223372036854775809 ≤ z) (h2 : z < 9223372036854775808) : IntKind.wrap .i64 z = if z = -9223372036854775809 then 9223372036854775807 else z := by
  show (if (true && decide ((z % 18446744073709551616 : Int) ≥ 9223372036854775808)) = true then z % 18446744073709551616 - 18446744073709551616 else z % 18446744073709551616) = _
  by_cases h : (z % 18446744073709551616 : Int) ≥ 9223372036854775808
  · rw [if_pos (by simpa using h)]; split <;> omega
  · rw [if_neg (by simpa using h)]; split <;> omega
/-- isMore. -/
theorem isMore_ok {n m b : Int} (hn : In64 n) (hm : In64 m) (hb : b = 0 ∨ b = 1) : Cl B (.call 7 [I n, I m, I b]) s fun v s' => v = .bool (decide (n = m + b)) ∧ s' = s := by
  refine Cl.enter Tryd.f7 fn7 rfl rfl rfl ?_
  obtain ⟨z, hz⟩ : ∃ z, IntKind.wrap .i64 (n - b) = z := ⟨_, rfl⟩
  have hw := wr64 (z := n - b) (by unfold In64 at *; omega) (by unfold In64 at *; omega)
  rw [hz] at hw
  unfold In64 at hn hm
  by_cases h : m ≤ n
  · refine run1 ?_
    refine Wo.val (gT rfl h) (Xv.subW rfl rfl (by omega) hz) rfl (run1 ?_)
    refine Lv.ret rfl ⟨?_, rfl⟩
    show Value.bool (decide (z = m)) = _
    refine congrArg Value.bool (decide_eq_decide.2 ?_)
    split at hw <;> omega
  · refine run1 ?_
    refine Lv.ret rfl ⟨?_, rfl⟩
    show Value.bool false = _
    rw [decide_eq_false (by omega)]
abbrev KAt (s : St) : Prop := At s (some ⟨0, 0, none⟩) KN
def lookV (k : Int) : List Value := if k = 1 then [I 1, I 0, I 0, .bool true] else if k = 2 then [I 2, I 1, I 32, .bool false] else [I 0, I 0, I 0, .bool false]
theorem lookOf_ok {k : Int} (w0 : Wf s) (hK : KAt s) : Cl B (.call 6 [I k]) s fun v s' => v = .tuple ⟨[.agg ⟨lookV k⟩, .bool (decide (k = 1 ∨ k = 2))]⟩ ∧ Kn s s' := by
  refine Cl.enter Tryd.f6 fn6 rfl rfl rfl ?_
  refine run1 ?_
  refine mk_gen (M := fun s' => Wo _ _ _ _ _ s' _) fun s1 r1 n1 k1 => ?_
  have w1 : Wf s1 := k1.wf w0
  have hl : ldn s1 (some ⟨0, 0, none⟩) 8 = some KN := (hK.kn w0 k1).ldn (i := 0) (n := 8) (by decide) (by decide)
  refine run1 ?_
  refine W.loop (α := Nat × St) (fun a => [(0, I k), (2, .pointer (some ⟨s.nx, 0, none⟩)), (6, .agg ⟨KN⟩), (7, nI a.1)]) (fun _ => []) (fun a => a.2)
    (fun a => a.1 ≤ 2 ∧ Rw a.2 s.nx [I 0, I 0, I 0, .bool false] s.nx ∧ Kn s1 a.2 ∧ (1 ≤ a.1 → k ≠ 1) ∧ (2 ≤ a.1 → k ≠ 2)) (fun a => 2 - a.1) (0, s1) ⟨Nat.zero_le _, r1, .refl, by omega, by omega⟩ (.cons rfl (.cons rfl (.cons rfl (.cons rfl .nil)))) rfl rfl (by show 2 - 0 < _; omega) ?_
  rintro ⟨i, t0⟩ ⟨i1, i2, i3, i4, i5⟩
  simp only at i1 i2 i3 i4 i5
  dsimp only
  have wt : Wf t0 := i3.wf w1
  by_cases hi : i < 2
  · refine run1 ?_
    obtain ⟨e, d1, d2, d3, he, hD, hV⟩ : ∃ (e d1 d2 : Int) (d3 : Bool), e = (i : Int) + 1 ∧ (KN.drop (i * 4)).take 4 = [I e, I d1, I d2, .bool d3] ∧ lookV e = [I e, I d1, I d2, .bool d3] := by
      obtain rfl | rfl : i = 0 ∨ i = 1 := by omega
      · exact ⟨1, 0, 0, true, rfl, rfl, rfl⟩
      · exact ⟨2, 1, 32, false, rfl, rfl, rfl⟩
    refine Wo.val rfl (Xv.ixN rfl rfl rfl rfl rfl hi (by show i * 4 + 4 ≤ 8; omega)) rfl ?_
    rw [hD]
    refine run1 ?_
    refine mk_gen (M := fun s' => Wo _ _ _ _ _ s' _) fun t1 q1 m1 g1 => ?_
    have wt1 : Wf t1 := g1.wf wt
    refine Wo.st rfl rfl rfl rfl rfl rfl rfl (by intro v hv; simp at hv; rcases hv with rfl | rfl | rfl | rfl <;> rfl) q1 (by decide) fun t2 q2 m2 g2 => ?_
    have q2' : Rw t2 t0.nx [I e, I d1, I d2, .bool d3] t0.nx := q2
    have hg : good (some ⟨t0.nx, 0, none⟩) := good_b
    have hl0 : ldq t2 (qadd (some ⟨t0.nx, 0, none⟩) 0) = some (I e) := q2'.f1 rfl
    have l4 : ldn t2 (some ⟨t0.nx, 0, none⟩) 4 = some [I e, I d1, I d2, .bool d3] := q2'.fn (i := 0) (n := 4) (Nat.le_refl _) (by decide)
    have hlt := i2.lt wt
    have i2b : Rw t2 s.nx [I 0, I 0, I 0, .bool false] s.nx := (i2.kp wt g1 id).kp wt1 g2 (by omega)
    have kk : Kn s1 t2 := i3.call (g1.app g2 (Nat.le_refl _))
    refine run1 ?_
    refine W.cond rfl (fun h => ?_) (fun h => ?_)
    · refine run1 ?_
      refine Wo.st rfl rfl rfl rfl rfl rfl rfl (by intro v hv; simp at hv; rcases hv with rfl | rfl | rfl | rfl <;> rfl) i2b (by decide) fun t3 q3 m3 g3 => ?_
      have q3' : Rw t3 s.nx [I e, I d1, I d2, .bool d3] s.nx := q3
      refine run1 ?_
      have hc := cell_at (B := B) (t := 31) rfl rfl q3' rfl rfl
      obtain rfl : k = e := by omega
      refine Lv.ret (vs := [.agg ⟨[I k, I d1, I d2, .bool d3]⟩, .bool true]) ?_ ⟨?_, (k1.call kk).app g3 (Nat.le_refl _)⟩
      · show (match cell1 B.P (.pointer (some ⟨s.nx, 0, none⟩)) 31 t3, some [Value.bool true] with | some v, some vs => some (v :: vs) | _, _ => none) = _
        rw [hc]
      · rw [hV, decide_eq_true (by omega)]; rfl
    · refine run1 ?_
      exact rnd.n (i + 1, t2) ⟨hi, i2b, kk, by omega, by omega⟩ (by show 2 - (i + 1) < 2 - i; omega) (.cons rfl (.cons rfl (.cons rfl (.cons rfl .nil)))) rfl rfl
  · refine run1 ?_
    refine Wo.st rfl rfl rfl rfl rfl rfl rfl (by intro v hv; simp at hv; rcases hv with rfl | rfl | rfl | rfl <;> rfl) i2 (by decide) fun t3 q3 m3 g3 => ?_
    have q3' : Rw t3 s.nx [I 0, I 0, I 0, .bool false] s.nx := q3
    refine run1 ?_
    have hc := cell_at (B := B) (t := 31) rfl rfl q3' rfl rfl
    refine Lv.ret (vs := [.agg ⟨[I 0, I 0, I 0, .bool false]⟩, .bool false]) ?_ ⟨?_, (k1.call i3).app g3 (Nat.le_refl _)⟩
    · show (match cell1 B.P (.pointer (some ⟨s.nx, 0, none⟩)) 31 t3, some [Value.bool false] with | some v, some vs => some (v :: vs) | _, _ => none) = _
      rw [hc]
    · have h1 := i4 (by omega)
      have h2 := i5 (by omega)
      rw [lookV, if_neg h1, if_neg h2, decide_eq_false (by omega)]; rfl
/-- What both answer. -/
def fol (c q : Int) (T R : List Nat) (k c' q' : Int) (P R' : List Nat) : Prop := (P = T ∧ c' = c + 1) ∧ ((k = 1 ∧ q' = q ∧ R' = R) ∨ (k = 2 ∧ q' = q + 1))
instance {c q : Int} {T R : List Nat} {k c' q' : Int} {P R' : List Nat} : Decidable (fol c q T R k c' q' P R') := by unfold fol; infer_instance
variable {c q k c' q' : Int} {T R P R' : List Nat} {x : Value}
theorem hd_tag (hT : T.length = 32) : ((hdV c q T R).drop 2).take 32 = T.map nB := by
  show (T.map nB ++ R.map nB).take 32 = _
  rw [List.take_append_of_le_length (by rw [List.length_map]; omega), List.take_of_length_le (by rw [List.length_map]; omega)]
theorem hd_root (hT : T.length = 32) (hR : R.length = 32) : ((hdV c q T R).drop 34).take 32 = R.map nB := by
  show ((T.map nB ++ R.map nB).drop 32).take 32 = _
  rw [List.drop_append_of_le_length (by rw [List.length_map]; omega), List.drop_of_length_le (by rw [List.length_map]; omega), List.nil_append, List.take_of_length_le (by rw [List.length_map]; omega)]
theorem rc_prev (hP : P.length = 32) : ((rcV k c q P R x).drop 3).take 32 = P.map nB := by
  show (P.map nB ++ (R.map nB ++ [x])).take 32 = _
  rw [List.take_append_of_le_length (by rw [List.length_map]; omega), List.take_of_length_le (by rw [List.length_map]; omega)]
theorem rc_root (hP : P.length = 32) (hR : R.length = 32) : ((rcV k c q P R x).drop 35).take 32 = R.map nB := by
  show ((P.map nB ++ (R.map nB ++ [x])).drop 32).take 32 = _
  rw [List.drop_append_of_le_length (by rw [List.length_map]; omega), List.drop_of_length_le (by rw [List.length_map]; omega), List.nil_append, List.take_append_of_le_length (by rw [List.length_map]; omega), List.take_of_length_le (by rw [List.length_map]; omega)]
theorem hd_len (hT : T.length = 32) (hR : R.length = 32) : (hdV c q T R).length = 66 := by simp [hdV, hT, hR]
theorem rc_len (hP : P.length = 32) (hR : R.length = 32) : (rcV k c q P R x).length = 68 := by simp [rcV, hP, hR]
/-- A head and a record in blocks: what is read of them. -/
structure Two (s : St) (a b γ δ : Nat) (c q : Int) (T R : List Nat) (k c' q' : Int) (P R' : List Nat) : Prop where
  h0 : ldq s (qadd (some ⟨a, 0, none⟩) 0) = some (I c)
  h1 : ldq s (qadd (some ⟨a, 0, none⟩) 1) = some (I q)
  h2 : ldn s (qadd (some ⟨a, 0, none⟩) 2) 32 = some (T.map nB)
  h3 : ldn s (qadd (some ⟨a, 0, none⟩) 34) 32 = some (R.map nB)
  r0 : ldq s (qadd (some ⟨b, 0, none⟩) 0) = some (I k)
  r1 : ldq s (qadd (some ⟨b, 0, none⟩) 1) = some (I c')
  r2 : ldq s (qadd (some ⟨b, 0, none⟩) 2) = some (I q')
  r3 : ldn s (qadd (some ⟨b, 0, none⟩) 3) 32 = some (P.map nB)
  r4 : ldn s (qadd (some ⟨b, 0, none⟩) 35) 32 = some (R'.map nB)
theorem two_of {a b γ δ : Nat} (hT : T.length = 32) (hR : R.length = 32) (hP : P.length = 32) (hR' : R'.length = 32) (ha : Rw s a (hdV c q T R) γ) (hb : Rw s b (rcV k c' q' P R' x) δ) : Two s a b γ δ c q T R k c' q' P R' where
  h0 := ha.f1 rfl
  h1 := ha.f1 rfl
  h2 := by rw [ha.fn (by rw [hd_len hT hR]; decide) (by decide), hd_tag hT]
  h3 := by rw [ha.fn (by rw [hd_len hT hR]; decide) (by decide), hd_root hT hR]
  r0 := hb.f1 rfl
  r1 := hb.f1 rfl
  r2 := hb.f1 rfl
  r3 := by rw [hb.fn (by rw [rc_len hP hR']; decide) (by decide), rc_prev hP]
  r4 := by rw [hb.fn (by rw [rc_len hP hR']; decide) (by decide), rc_root hP hR']
theorem two_mk {cs ds : List Value} (w0 : Wf s) : ∃ s2 b, mkRow (mkRow s cs) ds = s2 ∧ (mkRow s cs).nx = b ∧ b = s.nx + 1 ∧ Rw s2 s.nx cs s.nx ∧ Rw s2 b ds b ∧ s2.nx = s.nx + 2 ∧ Kn s s2 :=
  ⟨_, _, rfl, rfl, rfl, mkRow_rw.kp (mkRow_wf w0) mkRow_kn id, mkRow_rw, rfl, mkRow_kn.call mkRow_kn⟩
theorem Two.kn {s' : St} {a b γ δ : Nat} (hT : T.length = 32) (hR : R.length = 32) (hP : P.length = 32) (hR' : R'.length = 32) (ha : Rw s a (hdV c q T R) γ) (hb : Rw s b (rcV k c' q' P R' x) δ) (w : Wf s) (kn : Kn s s') : Two s' a b γ δ c q T R k c' q' P R' :=
  two_of (x := x) hT hR hP hR' (ha.kp w kn id) (hb.kp w kn id)
theorem follows_ok (w0 : Wf s) (hK : KAt s) (hT : T.length = 32) (hR : R.length = 32) (hP : P.length = 32) (hR' : R'.length = 32) (bc : In64 c) (bq : In64 q) (bc' : In64 c') (bq' : In64 q') :
    Cl B (.call 4 [.agg ⟨hdV c q T R⟩, .agg ⟨rcV k c' q' P R' x⟩]) s fun v s' => v = .bool (decide (fol c q T R k c' q' P R')) ∧ Kn s s' := by
  refine Cl.enter Tryd.f4 fn4 rfl rfl rfl ?_
  refine run1 ?_
  obtain ⟨s2, b, e1, e2, hb, ra, rb, n2, k2⟩ := two_mk (cs := hdV c q T R) (ds := rcV k c' q' P R' x) w0
  rw [e1, e2]
  have w2 : Wf s2 := k2.wf w0
  have ga : good (some ⟨s.nx, 0, none⟩) := good_b
  have gb : good (some ⟨b, 0, none⟩) := good_b
  have l0 := (two_of (x := x) hT hR hP hR' ra rb).r0
  refine run1 ?_
  refine Wo.call rfl (Xc.call ok6 rfl) rfl ((lookOf_ok w2 (hK.kn w0 k2)).mono ?_)
  rintro v s3 ⟨rfl, k3⟩
  have w3 : Wf s3 := k3.wf w2
  refine run1 ?_
  obtain ⟨e, d1, d2, d3, hV, hd1⟩ : ∃ (e d1 d2 : Int) (d3 : Bool), lookV k = [I e, I d1, I d2, .bool d3] ∧ ((k = 1 ∧ d1 = 0 ∧ d3 = true) ∨ (k = 2 ∧ d1 = 1 ∧ d3 = false) ∨ (k ≠ 1 ∧ k ≠ 2)) := by
    by_cases h1 : k = 1
    · exact ⟨1, 0, 0, true, by rw [lookV, if_pos h1], .inl ⟨h1, rfl, rfl⟩⟩
    · by_cases h2 : k = 2
      · exact ⟨2, 1, 32, false, by rw [lookV, if_neg h1, if_pos h2], .inr (.inl ⟨h2, rfl, rfl⟩)⟩
      · exact ⟨0, 0, 0, false, by rw [lookV, if_neg h1, if_neg h2], .inr (.inr ⟨h1, h2⟩)⟩
  rw [hV]
  refine mk_gen (M := fun s' => Wo _ _ _ _ _ s' _) fun s4 q4 m4 k4 => ?_
  have w4 : Wf s4 := k4.wf w3
  refine Wo.st rfl rfl rfl rfl rfl rfl rfl (by intro v hv; simp at hv; rcases hv with rfl | rfl | rfl | rfl <;> rfl) q4 (by decide) fun s5 q5 m5 k5 => ?_
  have q5' : Rw s5 s3.nx [I e, I d1, I d2, .bool d3] s3.nx := q5
  have k35 : Kn s3 s5 := k4.app k5 (Nat.le_refl _)
  have k25 : Kn s2 s5 := k3.call k35
  have w5 : Wf s5 := k25.wf w2
  have g5 : good (some ⟨s3.nx, 0, none⟩) := good_b
  obtain ⟨h0, h1, h2, h3, r0, r1, r2, r3, r4⟩ := Two.kn hT hR hP hR' ra rb w2 k25
  have f1 : ldq s5 (qadd (some ⟨s3.nx, 0, none⟩) 1) = some (I d1) := q5'.f1 rfl
  have f3 : ldq s5 (qadd (some ⟨s3.nx, 0, none⟩) 3) = some (.bool d3) := q5'.f1 rfl
  have fin : Kn s s5 := k2.call k25
  by_cases hk : k = 1 ∨ k = 2
  · by_cases hPT : P = T
    · have hPT' : ¬ P ≠ T := not_not_intro hPT
      refine run1 ?_
      refine Wo.val rfl (Xv.neH HH HG rfl rfl hP hT) rfl (run1 ?_)
      obtain ⟨hk1, rfl, rfl⟩ | ⟨hk2, rfl, rfl⟩ : (k = 1 ∧ d1 = 0 ∧ d3 = true) ∨ (k = 2 ∧ d1 = 1 ∧ d3 = false) := by
        rcases hd1 with h | h | h
        · exact .inl h
        · exact .inr h
        · omega
      · refine run1 ?_
        refine Wo.val rfl (Xv.neH HH HG rfl rfl hR' hR) rfl ?_
        by_cases hRR : R' = R
        · have hRR' : ¬ R' ≠ R := not_not_intro hRR
          refine run1 ?_
          refine Wo.call rfl (Xc.call ok7 rfl) rfl ((isMore_ok bc' bc (.inr rfl)).mono ?_)
          rintro v s6 ⟨rfl, rfl⟩
          by_cases hc : c' = c + 1
          · refine run1 ?_
            refine Wo.call (gT rfl hc) (Xc.call ok7 rfl) rfl ((isMore_ok bq' bq (.inl rfl)).mono ?_)
            rintro v s6 ⟨rfl, rfl⟩
            refine run1 ?_
            refine Lv.ret rfl ⟨?_, fin⟩
            refine congrArg Value.bool (decide_eq_decide.2 ?_)
            unfold fol
            constructor
            · intro h; exact ⟨⟨hPT, hc⟩, .inl ⟨hk1, by omega, hRR⟩⟩
            · rintro ⟨_, ⟨_, h, _⟩ | ⟨h, _⟩⟩ <;> omega
          · refine run1 ?_
            refine Lv.ret rfl ⟨?_, fin⟩
            refine congrArg Value.bool (decide_eq_false ?_).symm
            unfold fol
            rintro ⟨⟨_, h⟩, _⟩
            exact hc h
        · refine run1 ?_
          refine Lv.ret rfl ⟨?_, fin⟩
          refine congrArg Value.bool (decide_eq_false ?_).symm
          unfold fol
          rintro ⟨_, ⟨_, _, h⟩ | ⟨h, _⟩⟩
          · exact hRR h
          · omega
      · refine run1 ?_
        refine Wo.call rfl (Xc.call ok7 rfl) rfl ((isMore_ok bc' bc (.inr rfl)).mono ?_)
        rintro v s6 ⟨rfl, rfl⟩
        by_cases hc : c' = c + 1
        · refine run1 ?_
          refine Wo.call (gT rfl hc) (Xc.call ok7 rfl) rfl ((isMore_ok bq' bq (.inr rfl)).mono ?_)
          rintro v s6 ⟨rfl, rfl⟩
          refine run1 ?_
          refine Lv.ret rfl ⟨?_, fin⟩
          refine congrArg Value.bool (decide_eq_decide.2 ?_)
          unfold fol
          constructor
          · intro h; exact ⟨⟨hPT, hc⟩, .inr ⟨hk2, h⟩⟩
          · rintro ⟨_, ⟨h, _, _⟩ | ⟨_, h⟩⟩
            · omega
            · exact h
        · refine run1 ?_
          refine Lv.ret rfl ⟨?_, fin⟩
          refine congrArg Value.bool (decide_eq_false ?_).symm
          unfold fol
          rintro ⟨⟨_, h⟩, _⟩
          exact hc h
    · refine run1 ?_
      refine Wo.val rfl (Xv.neH HH HG rfl rfl hP hT) rfl (run1 ?_)
      refine Lv.ret rfl ⟨?_, fin⟩
      refine congrArg Value.bool (decide_eq_false ?_).symm
      unfold fol
      rintro ⟨⟨h, _⟩, _⟩
      exact hPT h
  · refine run1 ?_
    refine Lv.ret rfl ⟨?_, fin⟩
    refine congrArg Value.bool (decide_eq_false ?_).symm
    unfold fol
    rintro ⟨_, ⟨h, _, _⟩ | ⟨h, _⟩⟩ <;> omega
set_option maxHeartbeats 1600000 in
theorem rfollows_ok (w0 : Wf s) (hT : T.length = 32) (hR : R.length = 32) (hP : P.length = 32) (hR' : R'.length = 32) (bc : In64 c) (bq : In64 q) (bc' : In64 c') (bq' : In64 q') :
    Cl B (.call 5 [.agg ⟨hdV c q T R⟩, .agg ⟨rcV k c' q' P R' x⟩]) s fun v s' => v = .bool (decide (fol c q T R k c' q' P R')) ∧ Kn s s' := by
  refine Cl.enter Tryd.f5 fn5 rfl rfl rfl ?_
  refine run1 ?_
  obtain ⟨s2, b, e1, e2, hb, ra, rb, n2, k2⟩ := two_mk (cs := hdV c q T R) (ds := rcV k c' q' P R' x) w0
  rw [e1, e2]
  have w2 : Wf s2 := k2.wf w0
  have ga : good (some ⟨s.nx, 0, none⟩) := good_b
  have gb : good (some ⟨b, 0, none⟩) := good_b
  obtain ⟨h0, h1, h2, h3, r0, r1, r2, r3, r4⟩ := two_of (x := x) hT hR hP hR' ra rb
  obtain ⟨z, hz⟩ : ∃ z, IntKind.wrap .i64 (c' - 1) = z := ⟨_, rfl⟩
  obtain ⟨y, hy⟩ : ∃ z, IntKind.wrap .i64 (q' - 1) = z := ⟨_, rfl⟩
  have hw := wr64 (z := c' - 1) (by unfold In64 at *; omega) (by unfold In64 at *; omega)
  have hv := wr64 (z := q' - 1) (by unfold In64 at *; omega) (by unfold In64 at *; omega)
  rw [hz] at hw
  rw [hy] at hv
  unfold In64 at bc bq bc' bq'
  by_cases hn : P = T ∧ c' = c + 1
  · obtain ⟨hPT, hcc⟩ := hn
    have hlt : c < c' := by omega
    have hzc : z = c := by split at hw <;> omega
    refine run1 ?_
    refine Wo.val (gT rfl hlt) (Xv.subW rfl rfl (by omega) hz) rfl (run1 ?_)
    refine Wo.val (gT rfl hzc) (Xv.eqH HH HG rfl rfl hP hT) rfl ?_
    by_cases k1 : k = 1
    · by_cases hq : q' = q
      · refine run1 ?_
        refine Wo.val (gT rfl hq) (Xv.eqH HH HG rfl rfl hR' hR) rfl (run1 ?_)
        refine Lv.ret rfl ⟨?_, k2⟩
        refine congrArg Value.bool (decide_eq_decide.2 ?_)
        unfold fol
        constructor
        · intro h; exact ⟨⟨hPT, hcc⟩, .inl ⟨k1, hq, h⟩⟩
        · rintro ⟨_, ⟨_, _, h⟩ | ⟨h, _⟩⟩
          · exact h
          · omega
      · refine run1 ?_
        refine Lv.ret rfl ⟨?_, k2⟩
        refine congrArg Value.bool (decide_eq_false ?_).symm
        unfold fol
        rintro ⟨_, ⟨_, h, _⟩ | ⟨h, _⟩⟩ <;> omega
    · by_cases k2' : k = 2
      · by_cases hq : q < q'
        · refine run1 ?_
          refine Wo.val (gT rfl hq) (Xv.subW rfl rfl (by omega) hy) rfl (run1 ?_)
          refine Lv.ret rfl ⟨?_, k2⟩
          refine congrArg Value.bool (decide_eq_decide.2 ?_)
          unfold fol
          constructor
          · intro h; exact ⟨⟨hPT, hcc⟩, .inr ⟨k2', by split at hv <;> omega⟩⟩
          · rintro ⟨_, ⟨h, _, _⟩ | ⟨_, h⟩⟩
            · omega
            · split at hv <;> omega
        · refine run1 ?_
          refine Lv.ret rfl ⟨?_, k2⟩
          refine congrArg Value.bool (decide_eq_false ?_).symm
          unfold fol
          rintro ⟨_, ⟨h, _, _⟩ | ⟨_, h⟩⟩ <;> omega
      · refine run1 ?_
        refine Lv.ret rfl ⟨?_, k2⟩
        refine congrArg Value.bool (decide_eq_false ?_).symm
        unfold fol
        rintro ⟨_, ⟨h, _, _⟩ | ⟨h, _⟩⟩ <;> omega
  · have hf : Value.bool false = .bool (decide (fol c q T R k c' q' P R')) := by
      refine congrArg Value.bool (decide_eq_false ?_).symm
      unfold fol
      rintro ⟨h, _⟩
      exact hn h
    by_cases hlt : c < c'
    · by_cases hzc : z = c
      · have hPT : ¬ P = T := fun h => hn ⟨h, by split at hw <;> omega⟩
        refine run1 ?_
        refine Wo.val (gT rfl hlt) (Xv.subW rfl rfl (by omega) hz) rfl (run1 ?_)
        refine Wo.val (gT rfl hzc) (Xv.eqH HH HG rfl rfl hP hT) rfl ?_
        by_cases k1 : k = 1
        · refine run1 ?_; exact Lv.ret rfl ⟨hf, k2⟩
        · by_cases k2' : k = 2
          · refine run1 ?_; exact Lv.ret rfl ⟨hf, k2⟩
          · refine run1 ?_; exact Lv.ret rfl ⟨hf, k2⟩
      · refine run1 ?_
        refine Wo.val (gT rfl hlt) (Xv.subW rfl rfl (by omega) hz) rfl ?_
        by_cases k1 : k = 1
        · refine run1 ?_; exact Lv.ret rfl ⟨hf, k2⟩
        · by_cases k2' : k = 2
          · refine run1 ?_; exact Lv.ret rfl ⟨hf, k2⟩
          · refine run1 ?_; exact Lv.ret rfl ⟨hf, k2⟩
    · by_cases k1 : k = 1
      · refine run1 ?_; exact Lv.ret rfl ⟨hf, k2⟩
      · by_cases k2' : k = 2
        · refine run1 ?_; exact Lv.ret rfl ⟨hf, k2⟩
        · refine run1 ?_; exact Lv.ret rfl ⟨hf, k2⟩
theorem eqV_hd : eqV 5 (.agg ⟨hdV c q T R⟩) (.agg ⟨hdV c q T R⟩) = true := eqV_agg fun v hv => by
  simp only [hdV, List.mem_cons, List.mem_append] at hv
  rcases hv with rfl | rfl | h | h
  · exact eqV4i
  · exact eqV4i
  · exact eqV_b _ h
  · exact eqV_b _ h
theorem eqV_rc (hx : eqV 4 x x = true) : eqV 5 (.agg ⟨rcV k c q P R x⟩) (.agg ⟨rcV k c q P R x⟩) = true := eqV_agg fun v hv => by
  simp only [rcV, List.mem_cons, List.mem_append, List.not_mem_nil, or_false] at hv
  rcases hv with rfl | rfl | rfl | h | h | rfl
  · exact eqV4i
  · exact eqV4i
  · exact eqV4i
  · exact eqV_b _ h
  · exact eqV_b _ h
  · exact hx
end Go.Proofs.YtmdodfnealkpdaaDoor
