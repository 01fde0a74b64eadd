import Derived.Test.YtmdodfnealkpdaaDoorJfzz
/-
  JournalFollows: the law.
-/
namespace Go.Proofs.YtmdodfnealkpdaaDoor
open Go Go.Ev Go.Sy
set_option maxRecDepth 100000
variable {s : St} {c q k c' q' : Int} {T R P R' : List Nat} {x : Value}
theorem hd_all (hT : T.length = 32) (hR : R.length = 32) {a γ : Nat} (h : Rw s a (hdV c q T R) γ) : ldn s (some ⟨a, 0, none⟩) 66 = some (hdV c q T R) := by
  have := h.fn (i := 0) (n := 66) (by rw [hd_len hT hR]; decide) (by decide)
  rwa [List.drop_zero, List.take_of_length_le (by rw [hd_len hT hR]; decide)] at this
theorem rc_all (hP : P.length = 32) (hR : R.length = 32) {a γ : Nat} (h : Rw s a (rcV k c q P R x) γ) : ldn s (some ⟨a, 0, none⟩) 68 = some (rcV k c q P R x) := by
  have := h.fn (i := 0) (n := 68) (by rw [rc_len hP hR]; decide) (by decide)
  rwa [List.drop_zero, List.take_of_length_le (by rw [rc_len hP hR]; decide)] at this
def Z32 : List Value := (List.replicate 32 0).map nB
theorem b32 {A : List Nat} (h : A.length = 32) : (A.map nB).length = Z32.length := by rw [List.length_map, h]; rfl
theorem hd_fill (hT : T.length = 32) (hR : R.length = 32) {C : List Value} (hC : C = [I 4, I 2] ++ (Z32 ++ (Z32 ++ []))) : (lov C 2 (T.map nB)).length = 66 ∧ lov (lov C 2 (T.map nB)) 34 (R.map nB) = hdV 4 2 T R := by
  subst hC
  rw [lov_app (a := [I 4, I 2]) (o := 2) rfl (b32 hT)]
  refine ⟨by simp [hT, Z32], ?_⟩
  have := lov_app (a := [I 4, I 2] ++ T.map nB) (b := Z32) (c := []) (vs := R.map nB) (o := 34) (by simp [hT]) (b32 hR)
  rw [List.append_assoc] at this
  rw [this]
  simp [hdV]
theorem rc_fill (hT : T.length = 32) (hR : R.length = 32) {C : List Value} (hC : C = [I 1, I 5, I 2] ++ (Z32 ++ (Z32 ++ [.slice none 0 0]))) : (lov C 3 (T.map nB)).length = 68 ∧ lov (lov C 3 (T.map nB)) 35 (R.map nB) = rcV 1 5 2 T R (.slice none 0 0) := by
  subst hC
  rw [lov_app (a := [I 1, I 5, I 2]) (o := 3) rfl (b32 hT)]
  refine ⟨by simp [hT, Z32], ?_⟩
  have := lov_app (a := [I 1, I 5, I 2] ++ T.map nB) (b := Z32) (c := [.slice none 0 0]) (vs := R.map nB) (o := 35) (by simp [hT]) (b32 hR)
  rw [List.append_assoc] at this
  rw [this]
  simp [rcV]
theorem one_i {z : Int} : ∀ v ∈ [I z], one v = true := fun v hv => by rw [List.mem_singleton.1 hv]; rfl
set_option maxHeartbeats 1600000 in
/-- The law. -/
theorem law_ok (hx : eqV 4 x x = true) (w0 : Wf s) (hK : KAt s) (hT : T.length = 32) (hR : R.length = 32) (hP : P.length = 32) (hR' : R'.length = 32) (bc : In64 c) (bq : In64 q) (bc' : In64 c') (bq' : In64 q') :
    Cl B (.call 3 [.agg ⟨hdV c q T R⟩, .agg ⟨rcV k c' q' P R' x⟩]) s fun v _ => v = .bool true := by
  refine Cl.enter Tryd.f3 fn3 rfl rfl rfl ?_
  refine run1 ?_
  obtain ⟨s2, b, e1, e2, hb, ra, rb, n2, k2⟩ := two_mk (cs := hdV c q T R) (ds := rcV k c' q' P R' x) w0
  rw [e1, e2]
  have w2 : Wf s2 := k2.wf w0
  have ga : good (some ⟨s.nx, 0, none⟩) := good_b
  have gb : good (some ⟨b, 0, none⟩) := good_b
  have t2 := two_of hT hR hP hR' ra rb
  refine W.dr [(0, .none, 0), (1, .reads, 1), (4, .makes, 0), (5, .makes, 0), (6, .acts, 51), (2, .none, 0), (3, .reads, 4), (7, .acts, 127)] (by kernel_rfl) rfl ?_
  refine run1 ?_
  refine Wd.read rfl (Xv.ldN rfl rfl rfl t2.h3) rfl eqV_h ⟨Xv.ldN rfl rfl rfl t2.h3, trivial⟩ ?_
  refine run1 ?_
  obtain ⟨z, hz⟩ : ∃ z : List Value, z = (List.replicate 32 0).map nB := ⟨_, rfl⟩
  have hzl : z.length = 32 := by rw [hz]; rfl
  obtain ⟨s4, b4, f1, f2, hb4, za, zb, n4, k4⟩ := two_mk (cs := z) (ds := z) w2
  rw [show mkRow (mkRow s2 _) _ = s4 from (by rw [← f1, hz]; rfl), show (mkRow s2 _).nx = b4 from (by rw [← f2, hz]; rfl)]
  refine Wd.st rfl rfl rfl rfl rfl rfl (by rw [List.length_map, hR]) one_nB za (by rw [hzl]; decide) fun s5 q5 m5 k5 => ?_
  rw [lov_all (by rw [List.length_map, hR, hzl])] at q5
  have k25 : Kn s2 s5 := k4.app k5 (Nat.le_refl _)
  have w4 := k4.wf w2
  have w5 := k25.wf w2
  have zb5 : Rw s5 b4 z b4 := zb.kp w4 k5 (by omega)
  have t5 := Two.kn hT hR hP hR' ra rb w2 k25
  refine run1 ?_
  refine Wd.read rfl (Xv.ldN rfl rfl rfl t5.h2) rfl eqV_h ⟨Xv.ldN rfl rfl rfl t5.h2, ⟨Xv.ldN rfl rfl rfl t2.h2, trivial⟩⟩ ?_
  refine Wd.st rfl rfl rfl rfl rfl rfl (by rw [List.length_map, hT]) one_nB zb5 (by rw [hzl]; decide) fun s6 q6 m6 k6 => ?_
  rw [lov_all (by rw [List.length_map, hT, hzl])] at q6
  have k26 : Kn s2 s6 := k25.app k6 (by omega)
  have w6 := k26.wf w2
  have q56 : Rw s6 s2.nx (R.map nB) s2.nx := q5.kp w5 k6 (by omega)
  have l6 : ldn s6 (some ⟨b4, 0, none⟩) 32 = some (T.map nB) := by
    have := q6.fn (i := 0) (n := 32) (by rw [List.length_map, hT]; decide) (by decide)
    rwa [List.drop_zero, List.take_of_length_le (by rw [List.length_map, hT]; decide)] at this
  have l5 : ldn s6 (some ⟨s2.nx, 0, none⟩) 32 = some (R.map nB) := by
    have := q56.fn (i := 0) (n := 32) (by rw [List.length_map, hR]; decide) (by decide)
    rwa [List.drop_zero, List.take_of_length_le (by rw [List.length_map, hR]; decide)] at this
  refine run1 ?_
  refine Wo.val rfl (Xv.buildE (cs := hdV 4 2 T R) rfl ?_) rfl (run1 ?_)
  · refine fill_cons rfl rfl rfl rfl one_i (by decide) (fill_cons rfl rfl rfl rfl one_i (by decide) (fill_cons rfl rfl rfl (by rw [List.length_map, hT]) one_nB (by decide) (fill_cons rfl rfl rfl (by rw [List.length_map, hR]) one_nB ?_ ?_)))
    · exact Nat.le_of_eq (hd_fill (R := R) hT hR rfl).1.symm
    · exact congrArg some (hd_fill hT hR rfl).2
  refine Wo.val rfl (Xv.buildE (cs := rcV 1 5 2 T R (.slice none 0 0)) rfl ?_) rfl (run1 ?_)
  · refine fill_cons rfl rfl rfl rfl one_i (by decide) (fill_cons rfl rfl rfl rfl one_i (by decide) (fill_cons rfl rfl rfl rfl one_i (by decide) (fill_cons rfl rfl rfl (by rw [List.length_map, hT]) one_nB (by decide) (fill_cons rfl rfl rfl (by rw [List.length_map, hR]) one_nB ?_ ?_))))
    · exact Nat.le_trans (show 67 ≤ 68 by decide) (Nat.le_of_eq (rc_fill (R := R) hT hR rfl).1.symm)
    · exact congrArg some (rc_fill hT hR rfl).2
  refine Wo.call rfl (Xc.call ok4 rfl) rfl ((follows_ok w6 (hK.kn w0 (k2.call k26)) hT hR hT hR ⟨by decide, by decide⟩ ⟨by decide, by decide⟩ ⟨by decide, by decide⟩ ⟨by decide, by decide⟩).mono ?_)
  rintro v s7 ⟨rfl, k7⟩
  rw [decide_eq_true (show fol 4 2 T R 1 5 2 T R from ⟨⟨rfl, rfl⟩, .inl ⟨rfl, rfl, rfl⟩⟩)]
  have k27 : Kn s2 s7 := k26.call k7
  have w7 := k27.wf w2
  have a7 := hd_all hT hR (ra.kp w2 k27 id)
  have b7 := rc_all hP hR' (rb.kp w2 k27 id)
  refine run1 ?_
  refine W.dr [(0, .none, 0), (1, .none, 1), (2, .reads, 3), (3, .reads, 3), (4, .acts, 15), (5, .reads, 3), (6, .reads, 3), (7, .acts, 127), (8, .none, 255), (9, .none, 511), (10, .none, 1023)] (by kernel_rfl) rfl ?_
  refine run1 ?_
  refine Wd.read rfl (Xv.ldN rfl rfl rfl a7) rfl eqV_hd ⟨Xv.ldN rfl rfl rfl a7, trivial⟩ ?_
  refine Wd.read rfl (Xv.ldN rfl rfl rfl b7) rfl (eqV_rc hx) ⟨Xv.ldN rfl rfl rfl b7, trivial⟩ ?_
  refine Wd.call rfl (Xc.call ok4 rfl) rfl ((follows_ok w7 (hK.kn w0 (k2.call k27)) hT hR hP hR' bc bq bc' bq').mono ?_)
  rintro v s8 ⟨rfl, k8⟩
  refine ⟨k8.le, ?_⟩
  have k28 : Kn s2 s8 := k27.call k8
  have w8 := k28.wf w2
  have a8 := hd_all hT hR (ra.kp w2 k28 id)
  have b8 := rc_all hP hR' (rb.kp w2 k28 id)
  refine Wd.read rfl (Xv.ldN rfl rfl rfl a8) rfl eqV_hd ⟨Xv.ldN rfl rfl rfl a8, ⟨Xv.ldN rfl rfl rfl a7, trivial⟩⟩ ?_
  refine Wd.read rfl (Xv.ldN rfl rfl rfl b8) rfl (eqV_rc hx) ⟨Xv.ldN rfl rfl rfl b8, ⟨Xv.ldN rfl rfl rfl b7, trivial⟩⟩ ?_
  refine Wd.call rfl (Xc.call ok5 rfl) rfl ((rfollows_ok w8 hT hR hP hR' bc bq bc' bq').mono ?_)
  rintro v s9 ⟨rfl, k9⟩
  refine ⟨k9.le, ?_⟩
  refine Wd.val rfl (Xv.eqB rfl rfl rfl) rfl (Nat.le_refl _) ?_
  rw [beq_self_eq_true]
  refine run1 ?_
  exact Lv.ret rfl rfl
end Go.Proofs.YtmdodfnealkpdaaDoor
