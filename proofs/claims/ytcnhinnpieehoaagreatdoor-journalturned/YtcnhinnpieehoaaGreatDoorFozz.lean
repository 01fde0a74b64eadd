import Derived.Test.YtcnhinnpieehoaaGreatDoorReazz
import Derived.Test.YtcnhinnpieehoaaGreatDoorCpzz
namespace Go.Sy
open Go Go.Ev
def Mp1 (s : St) (r : Nat) (H : List Nat) (v : Value) (n c : Nat) : Prop := s.hp.get r = some (.map [⟨hsh H, v, n⟩] c) ∧ n < c
def Itr (s : St) (b r c : Nat) (seen : List Nat) : Prop := s.hp.get b = some (.iter (some r) c seen c)
theorem Mp.one {s : St} {r : Nat} {H : List Nat} {v : Value} (h : Mp s r [(H, v)]) : ∃ n c, Mp1 s r H v n c := by
 obtain ⟨l, c, h1, h2, _, h4⟩ := h
 match l, h2 with
 | [(H', v', n)], h2 =>
  simp only [List.map_cons, List.map_nil, List.cons.injEq, Prod.mk.injEq, and_true] at h2
  obtain ⟨rfl, rfl⟩ := h2
  exact ⟨n, c, h1, h4 (H', v', n) (by simp)⟩
theorem Mp1.kp {C : Nat → Prop} {s s' : St} {r : Nat} {H : List Nat} {v : Value} {n c : Nat} (h : Mp1 s r H v n c) (w : Wf s) (k : Kp C s s') (hr : ¬ C r) : Mp1 s' r H v n c := ⟨k.kp w r _ h.1 hr, h.2⟩
theorem Itr.kp {C : Nat → Prop} {s s' : St} {b r c : Nat} {seen : List Nat} (h : Itr s b r c seen) (w : Wf s) (k : Kp C s s') (hr : ¬ C b) : Itr s' b r c seen := k.kp w b _ h hr
theorem Kp.iter {s : St} {r : Nat} {m m' : Option Nat} {a a' c c' : Nat} {l l' : List Nat} (h : s.hp.get r = some (.iter m a l c)) : Kp (fun γ => γ = r) s (.mk (s.hp.set (.iter m' a' l' c') r) s.nx s.gr) := by
 have hg : ∀ m, (St.mk (s.hp.set (.iter m' a' l' c') r) s.nx s.gr).hp.get m = if m = r then some (.iter m' a' l' c') else s.hp.get m := fun m => get_set' _ s.hp r m
 refine ⟨Nat.le_refl _, fun w => ⟨fun b o hb => ?_, fun g ms m o hgr hm hb => ?_, fun b cs hb => ?_, fun b cs g hb hg0 => ?_, fun b cs g hb => ?_, w.glt, w.mlt, w.one⟩, fun w b o hb hc => ?_⟩
 ·rw [hg] at hb
  split at hb
  ·rename_i e; cases hb; subst e; exact w.lt b (.iter m a l c) h
  ·exact w.lt b o hb
 ·rw [hg] at hb
  split at hb
  ·rename_i e; subst e
   rcases w.mem g ms m _ hgr hm h with a | ⟨_, a⟩ <;> cases a
  ·exact w.mem g ms m o hgr hm hb
 ·rw [hg] at hb
  split at hb
  ·cases hb
  ·exact w.zero b cs hb
 ·rw [hg] at hb
  split at hb
  ·cases hb
  ·exact w.tag b cs g hb hg0
 ·rw [hg] at hb
  split at hb
  ·cases hb
  ·exact w.pos b cs g hb
 ·rw [hg]
  split
  ·rename_i e; subst e
   rw [h] at hb
   cases hb
   exact absurd rfl hc
  ·exact hb
section
variable {X : Fx} {env : Env} {s : St}
theorem Xv.rng {t t0 n0 key elt r n c : Nat} {z0 : Option (List Value)} {x : Operand} {H : List Nat} {v : Value} (ht : tk X.B.T t = some ⟨t0, n0, .mp key elt, z0⟩) (hx : ev env x = some (.map (some r))) (hm : Mp1 s r H v n c) :
  ∃ s', Xv X (.range t x) env s (.pointer (some ⟨s.nx, 0, none⟩)) s' ∧ Itr s' s.nx r c [] ∧ s'.nx = s.nx + 1 ∧ Kn s s' := by
 have hu : X.P.underlying t = some (.map key elt) := X.B.un ht
 refine ⟨.mk (s.hp.set (.iter (some r) c [] c) s.nx) (s.nx + 1) s.gr, fun tm hf => ?_, ?_, rfl, Kn.new (fun _ _ h => by cases h)⟩
 ·show xRange X.P t (opd tm x) s = _
  rw [ev_opd hf hx]
  obtain ⟨hp, nx, gr⟩ := s
  unfold xRange
  simp only [hu, show hp.get r = _ from hm.1]
  rw [newO_ok]; rfl
 ·show (s.hp.set _ s.nx).get s.nx = _
  rw [get_set', if_pos rfl]
theorem Xv.nxt1 {b r n c : Nat} {x : Operand} {H : List Nat} {v : Value} (hx : ev env x = some (.pointer (some ⟨b, 0, none⟩))) (hm : Mp1 s r H v n c) (hi : Itr s b r c []) :
  ∃ s', Xv X (.next x false) env s (.tuple ⟨[.bool true, hsh H, v]⟩) s' ∧ Itr s' b r c [n] ∧ s'.nx = s.nx ∧ Kp (fun c => c = b) s s' := by
 refine ⟨.mk (s.hp.set (.iter (some r) c [n] c) b) s.nx s.gr, fun tm hf => ?_, ?_, rfl, Kp.iter hi⟩
 ·show xNext (opd tm x) false s = _
  rw [ev_opd hf hx]
  obtain ⟨hp, nx, gr⟩ := s
  unfold xNext
  simp only [show hp.get b = _ from hi, show hp.get r = _ from hm.1]
  show nextE hp nx gr b r c [] c [⟨hsh H, v, n⟩] = _
  show cond (Nat.blt n c && plain 5 (hsh H)) (ofT (.tuple ⟨[.bool true, hsh H, v]⟩) (setO hp nx gr b (.iter (some r) c ([] ++ [n]) c))) .no = _
  rw [show Nat.blt n c = true from Nat.ble_eq_true_of_le hm.2, plain_h, setO_ok]; rfl
 ·show (s.hp.set _ b).get b = _
  rw [get_set', if_pos rfl]
theorem Xv.ent1 {b r n c : Nat} {x : Operand} {H : List Nat} {v : Value} (hx : ev env x = some (.pointer (some ⟨b, 0, none⟩))) (hm : Mp1 s r H v n c) (hi : Itr s b r c [n]) : Xv X (.entry x) env s (.tuple ⟨[hsh H, v]⟩) s := fun tm hf => by
 show xEntry (opd tm x) s = _
 rw [ev_opd hf hx]
 obtain ⟨hp, nx, gr⟩ := s
 unfold xEntry
 simp only [show hp.get b = _ from hi, show hp.get r = _ from hm.1, List.getLast?_singleton]
 rw [Nat.beq_refl]
 show entE (cond (Nat.beq n n) (some ⟨hsh H, v, n⟩) none) _ = _
 rw [Nat.beq_refl]
 show cond (plain 5 (hsh H)) _ _ = _
 rw [plain_h]; rfl
theorem Xv.nxt0 {b r n c : Nat} {x : Operand} {H : List Nat} {v : Value} (hx : ev env x = some (.pointer (some ⟨b, 0, none⟩))) (hm : Mp1 s r H v n c) (hi : Itr s b r c [n]) : Xv X (.next x false) env s (.tuple ⟨[.bool false]⟩) s := fun tm hf => by
 show xNext (opd tm x) false s = _
 rw [ev_opd hf hx]
 obtain ⟨hp, nx, gr⟩ := s
 unfold xNext
 simp only [show hp.get b = _ from hi, show hp.get r = _ from hm.1]
 have e1 : (!([n] : List Nat).isEmpty && !([⟨hsh H, v, n⟩] : List MapEntry).isEmpty && ([⟨hsh H, v, n⟩] : List MapEntry).all (fun e => Nat.ble c e.born)) = false := by
  show (true && true && (Nat.ble c n && true)) = false
  have : Nat.ble c n = false := by
   cases h : Nat.ble c n with
   | false => rfl
   | true => have := Nat.le_of_ble_eq_true h; have := hm.2; omega
  rw [this]; rfl
 have e2 : (([⟨hsh H, v, n⟩] : List MapEntry).filter fun e => !([n] : List Nat).contains e.born) = [] := by simp
 rw [e1, e2]
 rfl
theorem Xv.ixS {t : TypeId} {x y : Operand} {u : ByteArray} {k : IntKind} {n : Int} (hx : ev env x = some (.string u)) (hy : ev env y = some (.int k n)) (hp : pureRun X.P (Instr.index t (.string u) (.int k n)) = some (.int .u8 1)) : Xv X (.index t x y) env s (.int .u8 1) s := fun tm hf => by
 show xIndex X.P t (opd tm x) (opd tm y) s = _
 rw [ev_opd hf hx, ev_opd hf hy]
 show ofPure X.P (Instr.index t (.string u) (.int k n)) s = _
 unfold ofPure
 rw [hp]
 rfl
end
section
variable {X : Fx} {env : Env} {df : List Deferred} {s : St} {Q : Post} {all os : List Oper} {d : Option Nat} {ty : TypeId} {pos : String} {af : Array Edge} {g : Option (Nat × Bool)}
theorem Wo.rng {t t0 n0 key elt r n c : Nat} {z0 : Option (List Value)} {x : Operand} {H : List Nat} {v : Value} (hg : wantsE all env g = some true) (hd : dOk X d = true) (ht : tk X.B.T t = some ⟨t0, n0, .mp key elt, z0⟩) (hx : ev env x = some (.map (some r))) (hm : Mp1 s r H v n c)
  (K : ∀ s', Itr s' s.nx r c [] → s'.nx = s.nx + 1 → Kn s s' → Wo X all os (up d (.pointer (some ⟨s.nx, 0, none⟩)) env) df s' Q) : Wo X all (⟨d, .range t x, ty, pos, af, g⟩ :: os) env df s Q := by
 obtain ⟨s', a, b, c, e⟩ := Xv.rng (X := X) (env := env) ht hx hm
 exact Wo.val hg a hd (K s' b c e)
theorem Wo.nxt1 {b r n c : Nat} {x : Operand} {H : List Nat} {v : Value} (hg : wantsE all env g = some true) (hd : dOk X d = true) (hx : ev env x = some (.pointer (some ⟨b, 0, none⟩))) (hm : Mp1 s r H v n c) (hi : Itr s b r c [])
  (K : ∀ s', Itr s' b r c [n] → s'.nx = s.nx → Kp (fun c => c = b) s s' → Wo X all os (up d (.tuple ⟨[.bool true, hsh H, v]⟩) env) df s' Q) : Wo X all (⟨d, .next x false, ty, pos, af, g⟩ :: os) env df s Q := by
 obtain ⟨s', a, b, c, e⟩ := Xv.nxt1 (X := X) (env := env) hx hm hi
 exact Wo.val hg a hd (K s' b c e)
end
end Go.Sy
namespace Go.Proofs.YtcnhinnpieehoaaGreatDoor
open Go Go.Ev Go.Sy
set_option maxRecDepth 100000
variable {s s0 : St} {p γ δ n c m N d : Nat} {q : Option Addr} {A D F G C : List Nat} {L cs : List Value}
set_option maxHeartbeats 4000000 in
theorem len64_ok : Cl B (.call 89 [.int .u64 1]) s fun v s' => (∃ z, v = .int .i64 z) ∧ s' = s := by
 refine Cl.enter Tryz.f89 fn89 rfl rfl rfl ?_
 have h1 : ¬ 4294967296 ≤ 1 := by decide
 have h2 : ¬ 65536 ≤ 1 := by decide
 have h3 : ¬ 256 ≤ 1 := by decide
 refine run1 ?_
 refine Wo.val rfl (Xv.ixS rfl rfl (by kernel_rfl)) rfl (run1 ?_)
 exact Lv.ret rfl ⟨⟨_, rfl⟩, rfl⟩
theorem blen_ok : Cl B (.call 53 [.int .u64 1]) s fun v s' => (∃ z, v = .int .i64 z) ∧ s' = s := by
 refine Cl.enter Tryz.f53 fn53 rfl rfl rfl ?_
 refine run1 ?_
 refine Wo.call rfl (Xc.call ok89 rfl) rfl (len64_ok.mono ?_)
 rintro v s' ⟨⟨z, rfl⟩, e'⟩; rw [e']; clear e' s'
 refine run1 ?_
 exact Lv.ret rfl ⟨⟨z, rfl⟩, rfl⟩
theorem isort1_ok {f : Value} : Cl B (.call 80 [.slice q 1 c, nI 0, nI 1, f]) s fun _ s' => s' = s := by
 refine Cl.enter Tryz.f80 fn80 rfl rfl rfl ?_
 refine run1 ?_
 refine W.loop (α := Unit) (fun _ => [(2, nI 1), (8, nI (0 + 1))]) (fun _ => []) (fun _ => s) (fun _ => True) (fun _ => 0) () trivial (.cons rfl (.cons rfl .nil)) rfl rfl (by decide) ?_
 rintro ⟨⟩ _
 have h : ¬ 0 + 1 < 1 := by decide
 refine run1 ?_
 exact Lv.nrm rfl rfl
theorem pdq1_ok {f : Value} {z : Int} : Cl B (.call 52 [.slice q 1 c, nI 0, nI 1, .int .i64 z, f]) s fun _ s' => s' = s := by
 refine Cl.enter Tryz.f52 fn52 rfl rfl rfl ?_
 refine run1 ?_
 refine W.loop (α := Unit) (fun _ => [(0, .slice q 1 c), (1, nI 0), (2, nI 1), (4, f)]) (fun _ => []) (fun _ => s) (fun _ => True) (fun _ => 0) () trivial (.cons rfl (.cons rfl (.cons rfl (.cons rfl .nil)))) rfl rfl (by decide) ?_
 rintro ⟨⟩ _
 have h : 1 - 0 ≤ 12 := by decide
 refine run1 ?_
 refine Wo.call rfl (Xc.call ok80 rfl) rfl (isort1_ok.mono ?_)
 rintro v s' e'; rw [e']; clear e' s'
 refine run1 ?_
 exact Lv.ret rfl rfl
theorem sort1_ok {f : Value} : Cl B (.call 27 [.slice q 1 c, f]) s fun _ s' => s' = s := by
 refine Cl.enter Tryz.f27 fn27 rfl rfl rfl ?_
 refine run1 ?_
 refine Wo.call rfl (Xc.call ok53 rfl) rfl (blen_ok.mono ?_)
 rintro v s' ⟨⟨z, rfl⟩, e'⟩; rw [e']; clear e' s'
 refine run1 ?_
 refine Wo.call rfl (Xc.call ok52 rfl) rfl (pdq1_ok.mono ?_)
 rintro v s' e'; rw [e']; clear e' s'
 refine run1 ?_
 exact Lv.nrm rfl rfl
theorem met_ok {b o r k : Nat} {l : List Value} {M : MpE} (hb : Rw s b l γ) (hm : l[o]? = some (.map (some r))) (hn : l[o + 1]? = some (nI k)) (hM : Mp s r M) : Cl B (.call 30 [.pointer (some ⟨b, o, none⟩)]) s fun v s' => v = .bool (decide (M.length < k)) ∧ s' = s := by
 refine Cl.enter Tryz.f30 fn30 rfl rfl rfl ?_
 have gd : good (some ⟨b, o, none⟩) := good_b
 have e : ∀ j, qadd (some ⟨b, 0, none⟩) (o + j) = qadd (some ⟨b, o, none⟩) j := fun j => by show some (Addr.mk b (0 + (o + j)) none) = some (Addr.mk b (o + j) none); rw [Nat.zero_add]
 have lm : ldq s (qadd (some ⟨b, o, none⟩) 0) = some (.map (some r)) := by rw [← e]; exact hb.f1 hm
 have ln : ldq s (qadd (some ⟨b, o, none⟩) 1) = some (nI k) := by rw [← e]; exact hb.f1 hn
 refine run1 ?_
 refine W.dr [(0, .none, 0), (1, .none, 1), (2, .none, 3), (3, .reads, 7), (4, .none, 0), (5, .none, 16), (6, .none, 48), (7, .reads, 112), (8, .reads, 240), (9, .none, 511), (10, .none, 1023)] (by kernel_rfl) rfl (run1 ?_)
 refine Wd.val rfl (Xv.nilC rfl) rfl (Nat.le_refl _) (run1 ?_)
 refine Wd.val rfl (Xv.nilC rfl) rfl (Nat.le_refl _) (run1 ?_)
 refine Wd.read rfl (Xv.ld rfl rfl rfl lm) rfl eqV_mp ⟨Xv.ld rfl rfl rfl lm, trivial⟩ ?_
 refine Wd.read rfl (Xv.lenM rfl rfl hM) rfl eqV_int ⟨Xv.lenM rfl rfl hM, trivial⟩ (run1 ?_)
 exact Lv.ret rfl ⟨rfl, rfl⟩
set_option maxHeartbeats 1600000 in
theorem sound_ok {cb b r1 r2 r3 : Nat} {H : List Nat} {u : Value} (w0 : Wf s) (hb : Rw s b (bkT 256 cb S0 (bl 0 r1 0 r2 1 r3 1)) b) (hM1 : Mp s r1 []) (hM2 : Mp s r2 [(H, u)]) (hr : r1 ≠ b ∧ r2 ≠ b) : Cl B (.call 12 [.pointer (some ⟨b, 0, none⟩)]) s fun v _ => v = .bool false := by
 refine Cl.enter Tryz.f12 fn12 rfl rfl rfl ?_
 have gd : good (some ⟨b, 0, none⟩) := good_b
 refine run1 ?_
 refine Wo.val rfl (Xv.pEq rfl rfl rfl) rfl (run1 ?_)
 refine Wo.val rfl (Xv.nilC rfl) rfl (run1 ?_)
 refine Wo.call rfl (Xc.call ok24 rfl) rfl ((lock_ok (o := 34) w0 hb (by rw [show 34 = 34 + 0 from rfl, bkT_at rfl]; rfl)).mono ?_)
 rintro v s2 ⟨b2, m2, k2⟩
 rw [show lov (bkT 256 cb S0 (bl 0 r1 0 r2 1 r3 1)) 34 [Value.int .i32 1] = bkT 256 cb S0 (bl 1 r1 0 r2 1 r3 1) from bkT_set (i := 0) rfl (show 0 < 8 by decide)] at b2
 have w2 : Wf s2 := k2.wf w0
 refine run1 ?_
 refine Wo.val rfl (Xv.nilC rfl) rfl (run1 ?_)
 refine Wo.dfr rfl rfl rfl ?_
 refine run1 ?_
 refine Wo.val rfl (Xv.nilC rfl) rfl (run1 ?_)
 refine Wo.call rfl (Xc.call ok30 rfl) rfl ((met_ok (o := 36) (k := 0) b2 (by rw [show 36 = 34 + 2 from rfl, bkT_at rfl]; rfl) (by rw [show 36 + 1 = 34 + 3 from rfl, bkT_at rfl]; rfl) (Mp.kp hM1 w0 k2 (by omega))).mono ?_)
 rintro v s' ⟨rfl, e'⟩; rw [e']; clear e' s'
 rw [show decide (([] : MpE).length < 0) = false from rfl]
 refine run1 ?_
 refine Wo.val rfl (Xv.nilC rfl) rfl (run1 ?_)
 refine Wo.call rfl (Xc.call ok30 rfl) rfl ((met_ok (o := 38) (k := 1) b2 (by rw [show 38 = 34 + 4 from rfl, bkT_at rfl]; rfl) (by rw [show 38 + 1 = 34 + 5 from rfl, bkT_at rfl]; rfl) (Mp.kp hM2 w0 k2 (by omega))).mono ?_)
 rintro v s' ⟨rfl, e'⟩; rw [e']; clear e' s'
 rw [show decide (([(H, u)] : MpE).length < 1) = false from rfl]
 have l41 : ldq s2 (qadd (qadd (some ⟨b, 0, none⟩) 40) 1) = some (nI 1) := by
  have := b2.f1 (show (bkT 256 cb S0 (bl 1 r1 0 r2 1 r3 1))[41]? = some (nI 1) by rw [show 41 = 34 + 7 from rfl, bkT_at rfl]; rfl)
  exact this
 have g40 : good (qadd (some ⟨b, 0, none⟩) 40) := good_b
 refine run1 ?_
 refine Wo.val rfl (Xv.nilC rfl) rfl (run1 ?_)
 refine Lv.retD (show 1 ≤ 100 by decide) ⟨by kernel_rfl, Cl.toLate rfl ((unlock_ok (o := 34) b2 (by rw [show 34 = 34 + 0 from rfl, bkT_at rfl]; rfl)).mono ?_)⟩
 rintro v s8 ⟨b8, m8, k8⟩
 exact ⟨[.bool false], rfl, rfl⟩
set_option maxHeartbeats 1600000 in
theorem forg_ok {cb b r1 r2 r3 N : Nat} {H D : List Nat} (w0 : Wf s) (h : Acc1 cb b r1 r2 r3 N H D s) (hr : r3 < b ∧ b < N) (hH : H.length = 32) (hD : D ≠ []) (hDl : D.length ≤ 1048576) : Cl B (.call 11 [.pointer (some ⟨b, 0, none⟩)]) s fun v s' => (∃ q c, v = .slice q 1 c) ∧ Rw s' b (bkT 256 cb S0 (bl 0 r1 0 r2 1 r3 1)) b ∧ Kp (fun c => c = b) s s' := by
 obtain ⟨ql, cl, qa, ca, γl, γa, u, hB, hM2, hM3, hL, hγl, hA, hγa⟩ := h
 obtain ⟨nb, cm, hM⟩ := Mp.one hM3
 refine Cl.enter Tryz.f11 fn11 rfl rfl rfl ?_
 have gd : good (some ⟨b, 0, none⟩) := good_b
 refine run1 ?_
 refine Wo.val rfl (Xv.pEq rfl rfl rfl) rfl (run1 ?_)
 refine Wo.val rfl (Xv.nilC rfl) rfl (run1 ?_)
 refine Wo.call rfl (Xc.call ok24 rfl) rfl ((lock_ok (o := 34) w0 hB (by rw [show 34 = 34 + 0 from rfl, bkT_at rfl]; rfl)).mono ?_)
 rintro v s2 ⟨b2, m2, k2⟩
 rw [show lov (bkT 256 cb S0 (bl 0 r1 0 r2 1 r3 1)) 34 [Value.int .i32 1] = bkT 256 cb S0 (bl 1 r1 0 r2 1 r3 1) from bkT_set (i := 0) rfl (show 0 < 8 by decide)] at b2
 have w2 : Wf s2 := k2.wf w0
 refine run1 ?_
 refine Wo.val rfl (Xv.nilC rfl) rfl (run1 ?_)
 refine Wo.dfr rfl rfl rfl ?_
 refine run1 ?_
 refine Wo.val rfl (Xv.nilC rfl) rfl (run1 ?_)
 have M2 : Mp1 s2 r3 H (.slice ql 1 cl) nb cm := hM.kp w0 k2 (by omega)
 have g40 : good (qadd (some ⟨b, 0, none⟩) 40) := good_b
 have l40 : ldq s2 (qadd (qadd (some ⟨b, 0, none⟩) 40) 0) = some (.map (some r3)) := b2.f1 (show (bkT 256 cb S0 (bl 1 r1 0 r2 1 r3 1))[40]? = some (.map (some r3)) by rw [show 40 = 34 + 6 from rfl, bkT_at rfl]; rfl)
 refine run1 ?_
 refine Wo.rng rfl rfl rfl rfl M2 fun s3 it3 n3 k3 => ?_
 have w3 := k3.wf w2
 obtain ⟨bi, hbi⟩ : ∃ b, b = s2.nx := ⟨_, rfl⟩
 rw [← hbi] at it3 ⊢
 have M3 := M2.kp w2 k3 id
 have hbn := (b2.lt w2).1
 have hrn := (w2.lt r3 _ M2.1).1
 have k03 : Kp (fun c => c = b) s s3 := k2.trans (k3.w)
 have hL3 : Sl s3 ql [.slice qa D.length ca] γl := hL.kp w0 k03 (by omega)
 have hA3 : Sl s3 qa (D.map nB) γa := hA.kp w0 k03 (by omega)
 have ltl : γl < s.nx := by
  rcases hL with ⟨e, _⟩ | ⟨b', o, ob, l', e, k1, k2, k3, _⟩
  ·cases e
  ·rw [← k3]; exact (w0.lt _ _ k1).2
 have lta : γa < s.nx := by
  rcases hA with ⟨e, _⟩ | ⟨b', o, ob, l', e, k1, k2, k3, _⟩
  ·exact absurd (List.map_eq_nil_iff.1 e) hD
  ·rw [← k3]; exact (w0.lt _ _ k1).2
 have h2n := k2.le
 refine run1 ?_
 refine W.loop (α := Nat × Option Addr × Nat × St) (fun a => [(3, .slice a.2.1 a.1 a.2.2.1), (22, .pointer (some ⟨bi, 0, none⟩))]) (fun _ => [⟨.fn (.func 25) #[], ⟨[.pointer (some ⟨b, 34, none⟩)]⟩⟩]) (fun a => a.2.2.2)
  (fun y => (y = (0, none, 0, s3)) ∨ (y.1 = 1 ∧ Itr y.2.2.2 bi r3 cm [nb] ∧ Kp (fun c => c = bi) s3 y.2.2.2)) (fun a => 1 - a.1) (0, none, 0, s3) (.inl rfl) (.cons rfl (.cons rfl .nil)) rfl rfl (show 1 - 0 < _ by decide) ?_
 rintro ⟨i, q, cc, t⟩ hI
 rcases hI with hI | ⟨rfl, it, kt⟩
 ·cases hI
  refine run1 ?_
  refine Wo.nxt1 rfl rfl rfl M3 it3 fun s4 it4 n4 k4 => ?_
  have n4 : s4.nx = s3.nx := n4
  have w4 := k4.wf w3
  have M4 := M3.kp w3 k4 (by omega)
  refine run1 ?_
  refine Wo.val rfl (Xv.ent1 rfl M4 it4) rfl (run1 ?_)
  refine mkO (cs := (List.replicate 32 0).map nB) fun s5 p5 n5 k5 => ?_
  have w5 := k5.wf w4
  refine Wo.st rfl rfl rfl rfl rfl rfl (by rw [List.length_map, hH]) one_nB p5 (by decide) fun s6 p6 n6 k6 => ?_
  rw [lov_all (by rw [List.length_map, hH]; rfl)] at p6
  have w6 := k6.wf w5
  have K46 : Kn s4 s6 := k5.app k6 (Nat.le_refl _)
  have k36 : Kp (fun c => c = bi) s3 s6 := k4.trans (K46.w)
  have it6 := it4.kp w4 K46 id
  have hL6 := (hL3.kp w3 k36 (by omega)).at
  have hA6 := (hA3.kp w3 k36 (by omega)).at
  obtain ⟨b4, hb4⟩ : ∃ b, b = s4.nx := ⟨_, rfl⟩
  rw [← hb4] at p6 ⊢
  have gql : good ql := hL6.good (i := 0) (Nat.zero_lt_one)
  have lql : ldq s6 (qadd ql (0 * 1)) = some (.slice qa D.length ca) := hL6.ld (i := 0) (Nat.zero_lt_one)
  have l6 := p6.all (n := 32) (by rw [List.length_map, hH]) (by decide)
  refine run1 ?_
  refine W.loop (α := Nat × Option Addr × Nat × St) (fun a => [(3, .slice a.2.1 a.1 a.2.2.1), (4, .pointer (some ⟨b4, 0, none⟩)), (22, .pointer (some ⟨bi, 0, none⟩)), (28, .slice ql 1 cl), (29, nI 1), (30, nI a.1)]) (fun _ => [⟨.fn (.func 25) #[], ⟨[.pointer (some ⟨b, 34, none⟩)]⟩⟩]) (fun a => a.2.2.2)
   (fun y => (y = (0, none, 0, s6)) ∨ (y.1 = 1 ∧ Itr y.2.2.2 bi r3 cm [nb] ∧ Kp (fun c => c = bi) s3 y.2.2.2)) (fun a => 1 - a.1) (0, none, 0, s6) (.inl rfl) (.cons rfl (.cons rfl (.cons rfl (.cons rfl (.cons rfl (.cons rfl .nil)))))) rfl rfl (show 1 - 0 < _ by decide) ?_
  rintro ⟨i, q, cc, t⟩ hI
  rcases hI with hI | ⟨rfl, it, kt⟩
  ·cases hI
   have h01 : 0 < 1 := Nat.zero_lt_one
   refine run1 ?_
   refine W.dr [(1, .none, 0), (2, .acts, 2), (0, .none, 0), (3, .reads, 0), (4, .none, 14), (5, .makes, 30), (6, .acts, 63), (7, .none, 127)] (by kernel_rfl) rfl (run1 ?_)
   refine Wd.call rfl (Xc.call ok26 rfl) rfl ((clone_ok w6 hA6 (by omega)).mono ?_)
   rintro v s7 ⟨q', c', γ', rfl, gw, k7, hγ'⟩
   have w7 := k7.wf w6
   have l7 := (p6.kp w6 k7 id).all (n := 32) (by rw [List.length_map, hH]) (by decide)
   refine ⟨k7.le, run1 ?_⟩
   refine Wd.read rfl (Xv.ldN rfl rfl rfl l7) rfl eqV_h ⟨Xv.ldN rfl rfl rfl l7, ⟨Xv.ldN rfl rfl rfl l6, trivial⟩⟩ ?_
   obtain ⟨u, hu⟩ : ∃ u, u = Value.slice q' D.length c' := ⟨_, rfl⟩
   have ou : one u = true := by rw [hu]; rfl
   have ones : ∀ v ∈ ntc u H, one v = true := fun v hv => by
    rcases List.mem_cons.1 hv with rfl | hv
    ·exact ou
    ·exact one_nB v hv
   have hln : (ntc u H).length = 33 := by rw [ntc, List.length_cons, List.length_map, hH]
   refine Wd.val rfl (Xv.buildE (cs := ntc (.slice q' D.length c') H) rfl ?_) rfl (Nat.le_refl _) ?_
   ·refine fill_cons (vs := [.slice q' D.length c']) rfl rfl cellsL_sl rfl (one1 rfl) (by decide) (fill_cons (vs := H.map nB) rfl rfl rfl (by rw [List.length_map, hH]) one_nB (show 1 + 32 ≤ 33 by decide) ?_)
    exact congrArg some (nt_fill (Z := (List.replicate 32 0).map nB) (by rw [List.length_map, hH]; rfl)).2
   rw [← hu]
   refine Wd.make rfl (Xv.bsl (cs := ntc u H) rfl rfl rfl (fillN_of (fill_cons (vs := ntc u H) rfl rfl rfl hln ones (by decide) (congrArg some (lov_all hln))))) rfl (Nat.le_succ _) ?_
   refine mk_gen (cs := ntc u H) (M := fun s' => Wd _ _ _ _ _ _ s' _) fun s8 p8 n8 k8 => ?_
   have w8 := k8.wf w7
   have h7 := k7.le
   have h46 := K46.le
   refine Wd.app (γ := s7.nx) rfl rfl rfl rfl rfl rfl rfl rfl rfl w8 .nil rfl (cells_at (k := 1) (size := 33) p8.ats hln (by decide)) hln ones rfl (show (5 * (0 + 1) + 3072) * 56 ≤ _ by decide) (show 0 + 1 ≤ _ by decide) ?_
   intro qn cn γn ta a1 a2 a3
   have wta := a2.wf w8
   refine run1 ?_
   have k3a : Kp (fun c => c = bi) s3 ta := KpW (k36.trans ((k7.call k8).w)) a2 (fun c (h : c = s7.nx) => by omega)
   refine rnd.n (1, qn, cn, ta) (.inr ⟨rfl, ?_, k3a⟩) (show 1 - 1 < 1 - 0 by decide) (.cons rfl (.cons rfl (.cons rfl (.cons rfl (.cons rfl (.cons rfl .nil)))))) rfl rfl
   exact (it6.kp w6 (k7.call k8) id).kp w8 a2 (show ¬ bi = s7.nx by omega)
  ·have h11 : ¬ 1 < 1 := by decide
   refine run1 ?_
   exact rnd.n (1, q, cc, t) (.inr ⟨rfl, it, kt⟩) (show 1 - 1 < 1 - 0 by decide) (.cons rfl (.cons rfl .nil)) rfl rfl
 ·simp only at it kt
  have wt := kt.wf w3
  refine run1 ?_
  refine Wo.val rfl (Xv.nxt0 rfl (M3.kp w3 kt (by omega)) it) rfl (run1 ?_)
  refine Wo.call rfl (Xc.call ok27 rfl) rfl (sort1_ok.mono ?_)
  rintro v s' e'; rw [e']; clear e' s'
  refine run1 ?_
  have b3 := (b2.kp w2 k3 id).kp w3 kt (by omega)
  refine Lv.retD (show 1 ≤ 100 by decide) ⟨by kernel_rfl, Cl.toLate rfl ((unlock_ok (o := 34) b3 (by rw [show 34 = 34 + 0 from rfl, bkT_at rfl]; rfl)).mono ?_)⟩
  rintro v s8 ⟨b8, m8, k8⟩
  rw [show lov (bkT 256 cb S0 (bl 1 r1 0 r2 1 r3 1)) 34 [Value.int .i32 0] = bkT 256 cb S0 (bl 0 r1 0 r2 1 r3 1) from bkT_set (i := 0) rfl (show 0 < 8 by decide)] at b8
  refine ⟨[.slice q 1 cc], rfl, ⟨q, cc, rfl⟩, b8, ?_⟩
  exact (KpW k03 (kt.mono fun c h => show s.nx ≤ c by omega) (fun c h => h)).trans k8
end Go.Proofs.YtcnhinnpieehoaaGreatDoor
