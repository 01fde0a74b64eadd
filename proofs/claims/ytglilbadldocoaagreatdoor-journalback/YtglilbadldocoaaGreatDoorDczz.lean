import Derived.Test.YtglilbadldocoaaGreatDoorSszz
namespace Go.Proofs.YtglilbadldocoaaGreatDoor
open Go Go.Ev Go.Sy
set_option maxRecDepth 100000
variable {s : St} {p γ δ n c : Nat} {q : Option Addr} {w : W8} {R M A : List Nat} {E : List Value}
theorem fwN_add : ∀ {k j : Nat} {w : W8} {l : List Nat}, fwN (k + j) w l = fwN j (fwN k w l) (l.drop (k * 64))
 | 0, j, w, l => by rw [Nat.zero_add, Nat.zero_mul, List.drop_zero]; rfl
 | k + 1, j, w, l => by
  rw [show k + 1 + j = (k + j) + 1 by omega]
  show fwN (k + j) (Dg.eb w (l.take 64)) (l.drop 64) = fwN j (fwN k (Dg.eb w (l.take 64)) (l.drop 64)) (l.drop ((k + 1) * 64))
  rw [fwN_add, List.drop_drop, show 64 + k * 64 = (k + 1) * 64 by omega]
theorem fwN_left : ∀ {k : Nat} {w : W8} {l r : List Nat}, k * 64 ≤ l.length → fwN k w (l ++ r) = fwN k w l
 | 0, _, _, _, _ => rfl
 | k + 1, w, l, r, h => by
  show fwN k (Dg.eb w ((l ++ r).take 64)) ((l ++ r).drop 64) = fwN k (Dg.eb w (l.take 64)) (l.drop 64)
  rw [List.take_append_of_le_length (by omega), List.drop_append_of_le_length (by omega), fwN_left (by rw [List.length_drop]; omega)]
def mw (M : List Nat) : W8 := fwN (M.length / 64) Dg.H0 M
def mr (M : List Nat) : List Nat := M.drop (M.length / 64 * 64)
def shaOf (M : List Nat) : List Nat := sumN (fwN ((M.length % 64 + (padL M.length).length) / 64) (mw M) (mr M ++ padL M.length)) 8
theorem shaOf_length : (shaOf M).length = 32 := sumN_length
theorem mw_app : fwN ((M.length % 64 + A.length) / 64) (mw M) (mr M ++ A) = mw (M ++ A) := by
 unfold mw mr
 rw [show (M ++ A).length / 64 = M.length / 64 + (M.length % 64 + A.length) / 64 by rw [List.length_append]; omega, fwN_add (l := M ++ A), fwN_left (k := M.length / 64) (l := M) (r := A) (by omega), List.drop_append_of_le_length (by omega)]
theorem mr_app : (mr M ++ A).drop ((M.length % 64 + A.length) / 64 * 64) = mr (M ++ A) := by
 unfold mr
 rw [← List.drop_append_of_le_length (by omega), List.drop_drop, List.length_append]
 congr 1; omega
def Msg (s : St) (p γ : Nat) (E : List Value) (M : List Nat) : Prop := ∃ R, Sst s p γ E (mw M) R M.length ∧ R.take (M.length % 64) = mr M
theorem msg_write (w0 : Wf s) (hT : ∀ s', Kp (fun c => c = γ) s s' → TabAt s') (h : Msg s p γ E M) (hd : Sl s q (A.map nB) δ) (hne : δ ≠ γ) (hc : Cap A.length c 1) (hA : ∀ x ∈ A, x < 256) (hn : M.length < 2 ^ 60) (hl : A.length < 2 ^ 60) :
  Cl B (.call 119 [.pointer (some ⟨p, 0, none⟩), .slice q A.length c]) s fun _ s' => Msg s' p γ E (M ++ A) ∧ s'.nx = s.nx ∧ Kp (fun c => c = γ) s s' := by
 obtain ⟨R, h1, h2⟩ := h
 refine (write_ok w0 hT h1 hd hne hc hA hn hl).mono ?_
 rintro v s' ⟨⟨R', k1, k2⟩, k3, k4⟩
 rw [h2] at k1 k2
 rw [mw_app] at k1
 rw [mr_app] at k2
 refine ⟨⟨R', by rw [List.length_append]; exact k1, ?_⟩, k3, k4⟩
 rw [← k2, List.length_append]; congr 1; omega
theorem msg_sum (w0 : Wf s) (hT : TabAt s) (h : Msg s p γ E M) (hn : M.length < 2 ^ 59) : Cl B (.call 120 [.pointer (some ⟨p, 0, none⟩)]) s fun v s' => v = hsh (shaOf M) ∧ Kn s s' := by
 obtain ⟨R, h1, h2⟩ := h
 refine (ssum_ok w0 hT h1 hn).mono ?_
 rintro v s' ⟨rfl, k⟩
 refine ⟨?_, k⟩
 unfold endW shaOf
 rw [h2]
theorem new_ok (hT : TabAt s) : Cl B (.call 118 []) s fun v s' => v = .pointer (some ⟨s.nx, 0, none⟩) ∧ Msg s' s.nx s.nx [] [] ∧ s'.nx = s.nx + 1 ∧ Kn s s' := by
 have ht := hT (2, Dg.HV) (by simp [Dg.tabs])
 have hld : ldn s (some ⟨2, 0, none⟩) 8 = some (wv Dg.H0) := by
  rcases ht with ⟨e, _⟩ | ⟨b, o, e, hr⟩
  ·cases e
  ·cases e; exact hr
 refine Cl.enter Tryz.f118 fn118 rfl rfl rfl ?_
 refine run1 ?_
 refine Lv.ret rfl ⟨rfl, ⟨List.replicate 64 0, ⟨mkRow_rw, ⟨by decide, by decide, by decide, by decide, by decide, by decide, by decide, by decide⟩, rfl, fun x hx => by rw [List.eq_of_mem_replicate hx]; decide⟩, rfl⟩, rfl, mkRow_kn⟩
def Part (s : St) (x : Value × List Nat) : Prop := ∃ q c, x.1 = .slice q x.2.length c ∧ At s q (x.2.map nB) ∧ Cap x.2.length c 1 ∧ ∀ y ∈ x.2, y < 256
theorem sum_ok {P : List (Value × List Nat)} (w0 : Wf s) (hT : TabAt s) (hq : At s q (P.map Prod.fst)) (hP : ∀ x ∈ P, Part s x) (hn : (P.flatMap Prod.snd).length < 2 ^ 59) (hl : P.length < 2 ^ 60) :
  Cl B (.call 121 [.slice q P.length c]) s fun v s' => v = hsh (shaOf (P.flatMap Prod.snd)) ∧ Kn s s' := by
 refine Cl.enter Tryz.f121 fn121 rfl rfl rfl ?_
 refine run1 ?_
 refine mkO (cs := (List.replicate 32 0).map nB) ?_
 intro s1 c1 c2 c3
 have w1 : Wf s1 := c3.wf w0
 have hT1 : TabAt s1 := hT.kpN w0 (c3.w)
 refine Wo.call rfl (Xc.call ok118 rfl) rfl ((new_ok hT1).mono ?_)
 rintro v s2 ⟨rfl, d1, d2, d3⟩
 have w2 : Wf s2 := d3.wf w1
 have kb2 : Kp (fun c => s.nx ≤ c) s s2 := (c3.w).trans (d3.w)
 have c1' : Rw s2 s.nx ((List.replicate 32 0).map nB) s.nx := c1.kp w1 d3 id
 refine run1 ?_
 refine W.loop (α := Nat × St) (fun a => [(2, .pointer (some ⟨s.nx, 0, none⟩)), (3, .pointer (some ⟨s1.nx, 0, none⟩)), (7, .slice q P.length c), (8, nI P.length), (9, nI a.1)]) (fun _ => []) (fun a => a.2)
  (fun a => a.1 ≤ P.length ∧ Msg a.2 s1.nx s1.nx [] ((P.take a.1).flatMap Prod.snd) ∧ a.2.nx = s2.nx ∧ Kp (fun c => c = s1.nx) s2 a.2) (fun a => P.length - a.1) (0, s2) ⟨Nat.zero_le _, d1, rfl, .refl⟩ (.cons rfl (.cons rfl (.cons rfl (.cons rfl (.cons rfl .nil))))) rfl rfl (by show P.length - 0 < _; omega) ?_
 rintro ⟨i, t0⟩ ⟨i1, i2, i3, i4⟩
 simp only at i1 i2 i3 i4
 dsimp only
 have kb : Kp (fun c => s.nx ≤ c) s t0 := kb2.trans (i4.mono fun c h => by subst h; omega)
 have wt : Wf t0 := kb.wf w0
 have hl9 : ∀ {A B : List (Value × List Nat)}, ((A ++ B).flatMap Prod.snd).length = (A.flatMap Prod.snd).length + (B.flatMap Prod.snd).length := fun {A B} => by rw [List.flatMap_append, List.length_append]
 by_cases hi : i < P.length
 ·obtain ⟨γ0, g1, g2⟩ := hq.sl
  have hq' : At t0 q (P.map Prod.fst) := (g1.kp w0 kb (by have := g2 w0; omega)).at
  obtain ⟨q1, k1, e1, e2, e3, e4⟩ := hP _ (List.getElem_mem hi)
  obtain ⟨δ, f1, f2⟩ := e2.sl
  have f3 := f2 w0
  have f1' : Sl t0 q1 ((P[i].2).map nB) δ := f1.kp w0 kb (by omega)
  have hld : ldq t0 (qadd q (i * 1)) = some (.slice q1 P[i].2.length k1) := by
   rw [Nat.mul_one, hq'.ld (by rw [List.length_map]; exact hi), List.getElem_map, e1]
  have hgood : good q := hq'.good (i := i) (by rw [List.length_map]; exact hi)
  have hlen : ((P.take i).flatMap Prod.snd).length + P[i].2.length < 2 ^ 59 := by
   have : P = P.take i ++ (P[i] :: P.drop (i + 1)) := by rw [← List.drop_eq_getElem_cons hi, List.take_append_drop]
   rw [this, hl9, List.flatMap_cons, List.length_append] at hn
   omega
  refine run1 ?_
  refine Wo.call rfl (Xc.call ok119 rfl) rfl ((msg_write wt (fun s' k => hT.kpN w0 (kb.trans (k.mono fun c h => by subst h; omega))) i2 f1' (by omega) e3 e4 (by omega) (by omega)).mono ?_)
  rintro v t1 ⟨m1, m2, m3⟩
  refine run1 ?_
  have et : (P.take (i + 1)).flatMap Prod.snd = (P.take i).flatMap Prod.snd ++ P[i].2 := by
   rw [List.take_succ_eq_append_getElem hi, List.flatMap_append]; simp
  exact rnd.n (i + 1, t1) ⟨hi, by show Msg t1 _ _ [] ((P.take (i + 1)).flatMap Prod.snd); rw [et]; exact m1, m2.trans i3, i4.trans m3⟩ (by show P.length - (i + 1) < P.length - i; omega) (.cons rfl (.cons rfl (.cons rfl (.cons rfl (.cons rfl .nil))))) rfl rfl
 ·have e : i = P.length := by omega
  subst e
  rw [List.take_length] at i2
  refine run1 ?_
  refine Wo.call rfl (Xc.call ok120 rfl) rfl ((msg_sum wt (hT.kpN w0 kb) i2 hn).mono ?_)
  rintro v t1 ⟨rfl, m2⟩
  obtain ⟨D, hD⟩ : ∃ D, D = shaOf (P.flatMap Prod.snd) := ⟨_, rfl⟩
  have hDl : D.length = 32 := by rw [hD]; exact shaOf_length
  rw [← hD]
  refine run1 ?_
  refine Wo.st rfl rfl rfl rfl rfl rfl (by rw [List.length_map, hDl]) (by intro v hv; obtain ⟨x, _, rfl⟩ := List.mem_map.1 hv; rfl) ((c1'.kp w2 i4 (by omega)).kp wt m2 id) (by rw [List.length_map, List.length_replicate]; decide) ?_
  intro t2 q1 q2 q3
  rw [lov_all (by rw [List.length_map, List.length_map, hDl, List.length_replicate])] at q1
  refine run1 ?_
  have hc := cell_at (B := B) (t := 32) (n := 32) (k := .ar 32 5) rfl rfl q1 (by rw [List.length_map, hDl]) rfl
  refine Lv.ret (vs := [hsh D]) ?_ ⟨rfl, ?_⟩
  ·show (match cell1 B.P (.pointer (some ⟨s.nx, 0, none⟩)) 32 t2, some [] with | some v, some vs => some (v :: vs) | _, _ => none) = _
   rw [hc]; rfl
  ·exact Kp.new (N := s.nx) .refl ((kb.trans (m2.w)).trans (q3.mono fun c h => by subst h; exact Nat.le_refl _)) (Nat.le_refl _)
end Go.Proofs.YtglilbadldocoaaGreatDoor
namespace Go.Sy
open Go Go.Ev
def anB (a b : Nat) : Nat := ((BitVec.ofNat 8 a) &&& ~~~ (BitVec.ofNat 8 b)).toNat
theorem anB_lt {a b : Nat} : anB a b < 256 := BitVec.isLt _
theorem wrap8 {n : Nat} (h : n < 256) : IntKind.wrap .u8 (Int.ofNat n) = Int.ofNat n := by
 show (if (false && decide ((Int.ofNat n % 256 : Int) ≥ 128)) = true then (Int.ofNat n % 256 : Int) - 256 else Int.ofNat n % 256) = _
 rw [if_neg (by simp)]
 show ((n : Int) % 256) = (n : Int)
 omega
theorem wrapZ {z : Int} (h1 : -4611686018427387904 ≤ z) (h2 : z < 4611686018427387904) : IntKind.wrap .i64 z = z := by
 show (if (true && decide ((z % 18446744073709551616 : Int) ≥ 9223372036854775808)) = true then z % 18446744073709551616 - 18446744073709551616 else z % 18446744073709551616) = z
 by_cases h : (z % 18446744073709551616 : Int) ≥ 9223372036854775808
 ·rw [if_pos (by simpa using h)]; omega
 ·rw [if_neg (by simpa using h)]; omega
section
variable {X : Fx} {env : Env} {s : St}
theorem Xv.anB {t t' : TypeId} {x y : Operand} {a b : Nat} (hx : ev env x = some (nB a)) (hy : ev env y = some (nB b)) : Xv X (.binOp .andNot t x y t') env s (nB (Go.Sy.anB a b)) s := fun tm hf => by
 show xBin X.P .andNot t x y (opd tm x) (opd tm y) s = _
 rw [ev_opd hf hx, ev_opd hf hy]
 have e : pureRun X.P (binOp .andNot t (nB a) (nB b)) = some (nB (Go.Sy.anB a b)) := by
  show some (Value.int .u8 (IntKind.wrap .u8 (Int.ofNat ((BitVec.ofInt 8 (Int.ofNat a) &&& ~~~BitVec.ofInt 8 (Int.ofNat b)).toNat)))) = _
  rw [show BitVec.ofInt 8 (Int.ofNat a) = BitVec.ofNat 8 a from BitVec.ofInt_natCast 8 a, show BitVec.ofInt 8 (Int.ofNat b) = BitVec.ofNat 8 b from BitVec.ofInt_natCast 8 b, show IntKind.wrap .u8 (Int.ofNat (BitVec.ofNat 8 a &&& ~~~BitVec.ofNat 8 b).toNat) = _ from wrap8 (anB_lt (a := a) (b := b))]
  rfl
 show ofPure X.P (binOp .andNot t (nB a) (nB b)) s = _
 unfold ofPure
 rw [e]
 show fI (Int.ofNat (Go.Sy.anB a b)) (fun n => Re.ok (.val (.int .u8 n)) s) = _
 rw [fI_eq]
theorem Xv.subZ {t t' : TypeId} {x y : Operand} {a b : Nat} (hx : ev env x = some (nI a)) (hy : ev env y = some (nI b)) (ha : a < 2 ^ 60) (hb : b < 2 ^ 60) {z : Int} (hz : z = (a : Int) - (b : Int)) : Xv X (.binOp .sub t x y t') env s (.int .i64 z) s := by
 subst hz
 by_cases h : b ≤ a
 ·have := Xv.subI (X := X) (s := s) (t := t) (t' := t') hx hy h (by omega)
  rw [show ((a : Int) - (b : Int)) = Int.ofNat (a - b) by show _ = ((a - b : Nat) : Int); omega]
  exact this
 intro tm hf
 show xBin X.P .sub t x y (opd tm x) (opd tm y) s = _
 rw [ev_opd hf hx, ev_opd hf hy]
 have e : pureRun X.P (binOp .sub t (nI a) (nI b)) = some (.int .i64 ((a : Int) - (b : Int))) := by
  show some (Value.int .i64 (IntKind.wrap .i64 ((a : Int) - (b : Int)))) = _
  rw [wrapZ (by omega) (by omega)]
 have e2 : arN .sub .i64 a b = none := by
  show cond (Nat.ble b a) _ (cond (Nat.beq 0 0) none _) = _
  rw [show Nat.ble b a = false by cases hq : Nat.ble b a with | false => rfl | true => exact absurd (Nat.le_of_ble_eq_true hq) h]; rfl
 show cond (kinds .sub .i64 .i64) (match arN .sub .i64 a b with | some n => okN .i64 n s | none => match cmN .sub a b with | some r => okB r s | none => ofPure X.P (binOp .sub t (nI a) (nI b)) s) .no = _
 rw [e2]
 show ofPure X.P (binOp .sub t (nI a) (nI b)) s = _
 unfold ofPure
 rw [e]
 show fI ((a : Int) - (b : Int)) (fun n => Re.ok (.val (.int .i64 n)) s) = _
 rw [fI_eq]
theorem Xv.max0 {x y : Operand} {ts : Array TypeId} {z : Int} {m : Nat} (hx : ev env x = some (.int .i64 z)) (hy : ev env y = some (nI 0)) (hm : (m : Int) = if 0 ≤ z then z else 0) : Xv X (.call ⟨.builtin .max, #[x, y], ts⟩) env s (nI m) s := fun tm hf => by
 show cond (allInt (opds tm [x, y])) (ofPure X.P (Builtin.max_ #[] 0 ⟨opds tm [x, y]⟩) s) .no = _
 rw [evs_opds hf (xs := [x, y]) (vs := [.int .i64 z, nI 0]) (by unfold evs evs evs; rw [hx, hy])]
 show ofV (.int .i64 (if (Int.ofNat 0) > z then Int.ofNat 0 else z)) s = _
 have e : (if (Int.ofNat 0) > z then Int.ofNat 0 else z) = Int.ofNat m := by
  show (if (0 : Int) > z then (0 : Int) else z) = (m : Int)
  rw [hm]
  by_cases h : 0 ≤ z
  ·rw [if_pos h, if_neg (by omega)]
  ·rw [if_neg h, if_pos (by omega)]
 rw [e]
 show fI (Int.ofNat m) (fun n => Re.ok (.val (.int .i64 n)) s) = _
 rw [fI_eq]
end
end Go.Sy
namespace Go.Proofs.YtglilbadldocoaaGreatDoor
open Go Go.Ev Go.Sy
set_option maxRecDepth 100000
variable {s : St} {n : Nat} {H : List Nat}
def ctN (H : List Nat) (n : Nat) : Nat → List Nat
 | 0 => H
 | i + 1 => (ctN H n i).set i (anB ((ctN H n i).getD i 0) (255 >>> (min (n - 8 * i) 8)))
theorem ctN_length : ∀ {i : Nat}, (ctN H n i).length = H.length
 | 0 => rfl
 | i + 1 => by rw [ctN, List.length_set, ctN_length]
theorem ctN_byte (h : ∀ x ∈ H, x < 256) : ∀ {i : Nat}, ∀ y ∈ ctN H n i, y < 256
 | 0 => h
 | _ + 1 => set_byte (ctN_byte h) anB_lt
def cutOf (H : List Nat) (n : Nat) : List Nat := ctN H n 32
theorem cut_ok (w0 : Wf s) (hl : H.length = 32) (_hH : ∀ x ∈ H, x < 256) (hn : n < 2 ^ 59) : Cl B (.call 58 [hsh H, nI n]) s fun v s' => v = hsh (cutOf H n) ∧ Kn s s' := by
 refine Cl.enter Tryz.f58 fn58 rfl rfl rfl ?_
 refine run1 ?_
 obtain ⟨s1, hs1⟩ : ∃ s1, s1 = mkRow s (H.map nB) := ⟨_, rfl⟩
 have a1 : Rw s1 s.nx (H.map nB) s.nx := by rw [hs1]; exact mkRow_rw
 have a2 : s1.nx = s.nx + 1 := by rw [hs1]; rfl
 have a3 : Kn s s1 := by rw [hs1]; exact mkRow_kn
 have w1 : Wf s1 := a3.wf w0
 obtain ⟨s2, hs2⟩ : ∃ s2, s2 = mkRow s1 ((List.replicate 32 0).map nB) := ⟨_, rfl⟩
 have b1 : Rw s2 s1.nx ((List.replicate 32 0).map nB) s1.nx := by rw [hs2]; exact mkRow_rw
 have b2 : s2.nx = s1.nx + 1 := by rw [hs2]; rfl
 have b3 : Kn s1 s2 := by rw [hs2]; exact mkRow_kn
 have w2 : Wf s2 := b3.wf w1
 have a1' : Rw s2 s.nx (H.map nB) s.nx := a1.kp w1 b3 id
 have hst : mkRow (mkRow s (H.map nB)) ((List.replicate 32 0).map nB) = s2 := by rw [← hs1, ← hs2]
 have hnx : (mkRow s (H.map nB)).nx = s1.nx := by rw [← hs1]
 refine W.loop (α := Nat × St) (fun a => [(1, nI n), (2, .pointer (some ⟨s.nx, 0, none⟩)), (4, .pointer (some ⟨s1.nx, 0, none⟩)), (7, nI a.1)]) (fun _ => []) (fun a => a.2)
  (fun a => a.1 ≤ 32 ∧ Rw a.2 s.nx ((ctN H n a.1).map nB) s.nx ∧ a.2.nx = s2.nx ∧ Kp (fun c => c = s.nx) s2 a.2) (fun a => 32 - a.1) (0, s2) ⟨Nat.zero_le _, a1', rfl, .refl⟩ (.cons rfl (.cons rfl (.cons ?_ (.cons rfl .nil)))) rfl ?_ (by show 32 - 0 < _; omega) ?_
 ·show some (Value.pointer (some ⟨(mkRow s (H.map nB)).nx, 0, none⟩)) = _
  rw [hnx]
 ·exact hst
 rintro ⟨i, t0⟩ ⟨i1, i2, i3, i4⟩
 simp only at i1 i2 i3 i4
 dsimp only
 have wt : Wf t0 := i4.wf w2
 by_cases hi : i < 32
 ·obtain ⟨z, hz⟩ : ∃ z : Int, z = (n : Int) - ((8 * i : Nat) : Int) := ⟨_, rfl⟩
  have hm : ((n - 8 * i : Nat) : Int) = if 0 ≤ z then z else 0 := by
   split <;> omega
  refine run1 ?_
  refine Wo.val rfl (Xv.subZ rfl rfl (by omega) (by omega) hz) rfl (run1 ?_)
  refine Wo.val rfl (Xv.max0 rfl rfl hm) rfl (run1 ?_)
  have hlt : i < (ctN H n i).length := by rw [ctN_length, hl]; exact hi
  have hld : ldq t0 (some ⟨s.nx, 0 + i * 1, none⟩) = some (nB ((ctN H n i).getD i 0)) := by
   have := Bs.ld (A := ctN H n i) (i := i) (Rw.ats i2) hlt
   exact this
  refine W.dr [(0, .none, 0), (1, .none, 1), (2, .reads, 3), (3, .none, 0), (4, .none, 8), (5, .none, 31), (6, .none, 63), (7, .acts, 127)] (by kernel_rfl) rfl (run1 ?_)
  refine Wd.val rfl (Xv.iaP rfl rfl rfl rfl hi) rfl (Nat.le_refl _) (run1 ?_)
  have hsh : arN .shr .u8 255 (min (n - 8 * i) 8) = some (255 >>> (min (n - 8 * i) 8)) := by
   show cond (Nat.ble (min (n - 8 * i) 8) 8) (some _) none = _
   rw [show Nat.ble (min (n - 8 * i) 8) 8 = true from Nat.ble_eq_true_of_le (by omega)]; rfl
  refine Wd.val rfl (Xv.ar (k := .u8) (k' := .i64) rfl rfl rfl hsh) rfl (Nat.le_refl _) (run1 ?_)
  refine Wd.val rfl (Xv.anB rfl rfl) rfl (Nat.le_refl _) (run1 ?_)
  refine Wd.val rfl (Xv.iaP rfl rfl rfl rfl hi) rfl (Nat.le_refl _) (run1 ?_)
  refine Wd.st rfl rfl rfl rfl rfl rfl rfl (by intro v hv; rw [List.mem_singleton] at hv; rw [hv]; rfl) i2 (by rw [List.length_map, ctN_length]; omega) ?_
  intro t1 m1 m2 m3
  have m1' : Rw t1 s.nx ((ctN H n (i + 1)).map nB) s.nx := by
   rw [ctN, ← lay_set hlt]
   have e : i = 0 + i * 1 := by omega
   have := m1
   rw [← e] at this
   exact this
  refine run1 ?_
  exact rnd.n (i + 1, t1) ⟨hi, m1', m2.trans i3, i4.trans m3⟩ (by show 32 - (i + 1) < 32 - i; omega) (.cons rfl (.cons rfl (.cons rfl (.cons rfl .nil)))) rfl rfl
 ·have e : i = 32 := by omega
  subst e
  obtain ⟨D, hD⟩ : ∃ D, D = ctN H n 32 := ⟨_, rfl⟩
  have hDl : D.length = 32 := by rw [hD, ctN_length, hl]
  rw [← hD] at i2
  unfold cutOf
  rw [← hD]
  have hls : ldn t0 (some ⟨s.nx, 0, none⟩) 32 = some (D.map nB) := by
   have := (Rw.ats i2).ldn (i := 0) (n := 32) (by rw [List.length_map, hDl]; omega) (by decide)
   rw [List.drop_zero, List.take_of_length_le (by rw [List.length_map, hDl]; omega)] at this
   exact this
  refine run1 ?_
  refine Wo.st rfl rfl rfl rfl rfl rfl (by rw [List.length_map, hDl]) (by intro v hv; obtain ⟨x, _, rfl⟩ := List.mem_map.1 hv; rfl) (b1.kp w2 i4 (by omega)) (by rw [List.length_map, List.length_replicate]; decide) ?_
  intro t1 q1 q2 q3
  rw [lov_all (by rw [List.length_map, List.length_map, hDl, List.length_replicate])] at q1
  refine run1 ?_
  have hc := cell_at (B := B) (t := 32) (n := 32) (k := .ar 32 5) rfl rfl q1 (by rw [List.length_map, hDl]) rfl
  refine Lv.ret (vs := [hsh D]) ?_ ⟨rfl, ?_⟩
  ·show (match cell1 B.P (.pointer (some ⟨s1.nx, 0, none⟩)) 32 t1, some [] with | some v, some vs => some (v :: vs) | _, _ => none) = _
   rw [hc]; rfl
  ·exact Kp.new (N := s.nx) .refl ((((a3.w).trans (b3.w)).trans (i4.mono fun c h => by subst h; exact Nat.le_refl _)).trans (q3.mono fun c h => by subst h; omega)) (Nat.le_refl _)
end Go.Proofs.YtglilbadldocoaaGreatDoor
