import Derived.Test.YtcnhinnpieehoaaGreatDoorHfzz
namespace Go.Sy
open Go Go.Ev
section
variable {X : Fx} {env : Env} {s : St}
theorem Xv.nilC {x : Operand} {b o : Nat} (hx : ev env x = some (.pointer (some ⟨b, o, none⟩))) : Xv X (.nilCheck x) env s (.pointer (some ⟨b, o, none⟩)) s := fun tm hf => by
 show xNil (opd tm x) s = _
 rw [ev_opd hf hx]; rfl
theorem Xv.pEq {t t0 n e : Nat} {z : Option (List Value)} {t' : TypeId} {x y : Operand} {q : Option Addr} (ht : tk X.B.T t = some ⟨t0, n, .pt e, z⟩) (hx : ev env x = some (.pointer q)) (hy : ev env y = some (.pointer none)) : Xv X (.binOp .eql t x y t') env s (.bool (decide (q = none))) s := fun tm hf => by
 show xBin X.P .eql t x y (opd tm x) (opd tm y) s = _
 rw [ev_opd hf hx, ev_opd hf hy]
 show eqA X.P .eql t x y (.pointer q) (.pointer none) s = _
 have hu : X.P.underlying t = some (.pointer e) := X.B.un ht
 unfold eqA
 rw [hu]
 cases q <;> rfl
end
end Go.Sy
namespace Go.Proofs.YtcnhinnpieehoaaGreatDoor
open Go Go.Ev Go.Sy
set_option maxRecDepth 100000
variable {s : St} {q : Option Addr} {c p γ δ n : Nat} {w : W8} {R A : List Nat} {E : List Value}
def sc (E : List Value) (w : W8) (R : List Nat) (n : Nat) : List Value := wv w ++ (R.map nB ++ nI n :: E)
theorem sc_length : (sc E w R n).length = R.length + 9 + E.length := by simp [sc, wv]; omega
theorem sc_le {k : Nat} (h : R.length = 64) (hk : k ≤ 73) : k ≤ (sc E w R n).length := by rw [sc_length]; omega
structure Sst (s : St) (p γ : Nat) (E : List Value) (w : W8) (R : List Nat) (n : Nat) : Prop where
 rw : Rw s p (sc E w R n) γ
 ok : Dg.Ok8 w
 len : R.length = 64
 by' : ∀ x ∈ R, x < 256
def fwN : Nat → W8 → List Nat → W8
 | 0, w, _ => w
 | k + 1, w, l => fwN k (Dg.eb w (l.take 64)) (l.drop 64)
theorem fwN_succ : ∀ {k : Nat} {w : W8} {l : List Nat}, fwN (k + 1) w l = Dg.eb (fwN k w l) ((l.drop (k * 64)).take 64)
 | 0, w, l => by simp [fwN]
 | k + 1, w, l => by
  have ih := fwN_succ (k := k) (w := Dg.eb w (l.take 64)) (l := l.drop 64)
  show fwN (k + 1) (Dg.eb w (l.take 64)) (l.drop 64) = _
  rw [ih, List.drop_drop]
  show Dg.eb (fwN k _ _) _ = Dg.eb (fwN k _ _) _
  rw [show 64 + k * 64 = (k + 1) * 64 by omega]
theorem eqV_wv {w : W8} : eqV 5 (.agg ⟨wv w⟩) (.agg ⟨wv w⟩) = true := by
 show eqL (eqV 4) (wv w) (wv w) = true
 simp only [wv, eqL, eqV4i, cond_true]
theorem wv_length {w : W8} : (wv w).length = 8 := rfl
theorem sc_words {w' : W8} : lov (sc E w R n) 0 (wv w') = sc E w' R n := by
 have := lov_app (a := []) (b := wv w) (c := R.map nB ++ nI n :: E) (vs := wv w') (o := 0) rfl rfl
 simpa [sc] using this
theorem sc_len {m : Nat} (h : R.length = 64) : lov (sc E w R n) 72 [nI m] = sc E w R m := by
 have := lov_app (a := wv w ++ R.map nB) (b := [nI n]) (c := E) (vs := [nI m]) (o := 72) (by rw [List.length_append, wv_length, List.length_map, h]) rfl
 simpa [sc] using this
theorem sc_rest {D : List Nat} {g : Nat} (h : R.length = 64) (hg : g + D.length ≤ 64) : lov (sc E w R n) (8 + g) (D.map nB) = sc E w (R.take g ++ (D ++ R.drop (g + D.length))) n := by
 have := lov_app (a := wv w ++ (R.take g).map nB) (b := ((R.drop g).take D.length).map nB) (c := (R.drop (g + D.length)).map nB ++ nI n :: E) (vs := D.map nB) (o := 8 + g) (by rw [List.length_append, wv_length, List.length_map, List.length_take]; omega) (by rw [List.length_map, List.length_map, List.length_take, List.length_drop]; omega)
 have e : R.map nB = (R.take g).map nB ++ (((R.drop g).take D.length).map nB ++ (R.drop (g + D.length)).map nB) := by
  rw [← List.map_append, ← List.map_append, ← List.drop_drop, List.take_append_drop, List.take_append_drop]
 unfold sc
 rw [e]
 simp only [List.append_assoc, List.map_append] at this ⊢
 exact this
theorem sc_ldw (h : Rw s p (sc E w R n) γ) : ldn s (qadd (some ⟨p, 0, none⟩) 0) 8 = some (wv w) := by
 rw [(Rw.ats h).ldn (i := 0) (n := 8) (by rw [sc_length]; omega) (by decide)]; rfl
theorem sc_ldr (h : Rw s p (sc E w R n) γ) (hl : R.length = 64) : At s (some ⟨p, 8, none⟩) (R.map nB) := by
 have := (h.sl (o := 8) (n := 64) (sc_le hl (by decide))).at
 have e : ((sc E w R n).drop 8).take 64 = R.map nB := by
  show (R.map nB ++ nI n :: E).take 64 = _
  rw [← hl, ← List.length_map (f := nB), List.take_left]
 rwa [e] at this
theorem write_ok (w0 : Wf s) (hT : ∀ s', Kp (fun c => c = γ) s s' → TabAt s') (h : Sst s p γ E w R n) (hd : Sl s q (A.map nB) δ) (hne : δ ≠ γ) (hc : Cap A.length c 1) (hA : ∀ x ∈ A, x < 256) (hn : n < 2 ^ 60) (hl : A.length < 2 ^ 60) :
  Cl B (.call 120 [.pointer (some ⟨p, 0, none⟩), .slice q A.length c]) s fun _ s' =>
   (∃ R', Sst s' p γ E (fwN ((n % 64 + A.length) / 64) w (R.take (n % 64) ++ A)) R' (n + A.length) ∧ R'.take ((n % 64 + A.length) % 64) = (R.take (n % 64) ++ A).drop ((n % 64 + A.length) / 64 * 64)) ∧ s'.nx = s.nx ∧ Kp (fun c => c = γ) s s' := by
 have hlen := h.len
 have hld : ldq s (qadd (some ⟨p, 0, none⟩) 72) = some (nI n) := by
  have ha : At s (some ⟨p, 0, none⟩) (sc E w R n) := by
   have := (h.rw.sl (o := 0) (n := (sc E w R n).length) (by omega)).at
   rwa [List.drop_zero, List.take_length] at this
  rw [ha.ld (i := 72) (by rw [sc_length]; omega)]
  congr 1
  simp only [sc]
  rw [List.getElem_append_right (by simp [wv]), List.getElem_append_right (by simp [wv]; omega)]
  simp [wv, hlen]
 have hgd : good (some ⟨p, 0, none⟩) := ⟨_, _, rfl⟩
 obtain ⟨g, hg⟩ : ∃ g, g = n % 64 := ⟨_, rfl⟩
 have hg64 : g < 64 := by omega
 have hgm : n.mod 64 = g := hg.symm
 rw [← hg]
 have one8 : ∀ {D : List Nat}, ∀ v ∈ D.map nB, one v = true := fun v hv => by obtain ⟨x, _, rfl⟩ := List.mem_map.1 hv; rfl
 obtain ⟨L, hL⟩ : ∃ L, L = R.take g ++ A := ⟨_, rfl⟩
 have hLl : L.length = g + A.length := by rw [hL, List.length_append, List.length_take]; omega
 have hLb : ∀ x ∈ L, x < 256 := fun x hx => by
  rw [hL] at hx
  rcases List.mem_append.1 hx with hx | hx
  ·exact h.by' x (List.mem_of_mem_take hx)
  ·exact hA x hx
 rw [← hL, ← hLl]
 refine Cl.enter Tryz.f120 fn120 rfl rfl rfl ?_
 refine run1 ?_
 refine Wo.val rfl (Xv.pEq rfl rfl rfl) rfl ?_
 refine run1 ?_
 refine Wo.val rfl (Xv.nilC rfl) rfl (run1 ?_)
 refine Wo.val rfl (Xv.nilC rfl) rfl (run1 ?_)
 refine Wo.val rfl (Xv.nilC rfl) rfl (run1 ?_)
 refine Wo.st rfl rfl rfl rfl rfl rfl rfl (oo1 rfl) h.rw (sc_le hlen (by decide)) ?_
 intro s1 j1 j2 j3
 have j1' : Rw s1 p (sc E w R (n + A.length)) γ := by rw [← sc_len hlen]; exact j1
 clear j1 hld
 have hd1 : Sl s1 q (A.map nB) δ := hd.kp w0 j3 hne
 rw [hgm]
 refine run1 ?_
 by_cases he : 0 < g ∧ g + A.length < 64
 ·refine W.cond rfl (fun h0 => ?_) (fun h0 => absurd he.1 h0)
  refine run1 ?_
  refine Wo.val rfl (Xv.nilC rfl) rfl (run1 ?_)
  refine Wo.val rfl ((Xv.slP (b := p) (o := 8) rfl rfl rfl (by decide)).2.1 rfl hg64) rfl (run1 ?_)
  refine Wo.cpy rfl rfl rfl rfl rfl rfl rfl j1' hd1.at (by rw [List.length_map, Nat.mul_one]) one8 (by rw [sc_length, hlen]; omega) ?_
  intro s2 k1 k2 k3
  have hmin : min A.length (64 - g) = A.length := by omega
  simp only [hmin, Nat.mul_one, ← List.map_take, List.take_length] at k1
  rw [sc_rest hlen (by omega)] at k1
  rw [hmin]
  have hlt : g + A.length < 64 := he.2
  refine run1 ?_
  have e0 : L.length / 64 = 0 := by omega
  have e1 : L.length % 64 = L.length := by omega
  rw [e0, e1]
  refine Lv.ret rfl ⟨⟨_, ⟨k1, h.ok, ?_, ?_⟩, ?_⟩, k2.trans j2, j3.trans k3⟩
  ·simp only [List.length_append, List.length_take, List.length_drop]; omega
  ·intro x hx
   rcases List.mem_append.1 hx with hx | hx
   ·exact h.by' x (List.mem_of_mem_take hx)
   ·rcases List.mem_append.1 hx with hx | hx
    ·exact hA x hx
    ·exact h.by' x (List.mem_of_mem_drop hx)
  ·rw [← List.append_assoc, ← hL, List.take_left]; rfl
 refine W.meet (α := St × Option Addr × Nat × Nat) (fun a => [(0, .pointer (some ⟨p, 0, none⟩)), (1, .slice a.2.1 (L.length - a.2.2.2 * 64) a.2.2.1)]) (fun a => a.1)
  (fun a => a.2.2.2 * 64 ≤ L.length ∧ (∃ R1, Sst a.1 p γ E (fwN a.2.2.2 w L) R1 (n + A.length)) ∧ Sl a.1 a.2.1 ((L.drop (a.2.2.2 * 64)).map nB) δ ∧ Cap (L.length - a.2.2.2 * 64) a.2.2.1 1 ∧ a.1.nx = s.nx ∧ Kp (fun c => c = γ) s a.1) ?_ ?_
 ·refine W.cond rfl (fun h0 => ?_) (fun h0 => ?_)
  ·have h0' : 0 < g := h0
   have hge : 64 ≤ g + A.length := by omega
   refine run1 ?_
   refine Wo.val rfl (Xv.nilC rfl) rfl (run1 ?_)
   refine Wo.val rfl ((Xv.slP (b := p) (o := 8) rfl rfl rfl (by decide)).2.1 rfl hg64) rfl (run1 ?_)
   refine Wo.cpy rfl rfl rfl rfl rfl rfl rfl j1' hd1.at (by rw [List.length_map, Nat.mul_one]) one8 (by rw [sc_length, hlen]; omega) ?_
   intro s2 k1 k2 k3
   have hmin : min A.length (64 - g) = 64 - g := by omega
   have hlt' : (A.take (64 - g)).length = 64 - g := by rw [List.length_take]; omega
   simp only [hmin, Nat.mul_one, ← List.map_take] at k1
   rw [sc_rest hlen (by omega)] at k1
   have eR : R.take g ++ (A.take (64 - g) ++ R.drop (g + (A.take (64 - g)).length)) = L.take 64 := by
    rw [hlt', List.drop_eq_nil_of_le (by omega), List.append_nil, hL, List.take_append, List.length_take, List.take_take]
    rw [show min 64 g = g by omega, show 64 - min g R.length = 64 - g by omega]
   rw [eR] at k1
   rw [hmin]
   have hs : ¬ g + (64 - g) < 64 := by omega
   refine run1 ?_
   have hd2 : Sl s2 q (A.map nB) δ := hd1.kp (j3.wf w0) k3 hne
   have hTl : (L.take 64).length = 64 := by rw [List.length_take]; omega
   have hTb : ∀ x ∈ L.take 64, x < 256 := fun x hx => hLb x (List.mem_of_mem_take hx)
   have hw2 := sc_ldw k1
   refine W.dr [(1, .none, 0), (2, .none, 2), (3, .none, 6), (4, .reads, 14), (5, .none, 0), (6, .none, 32), (7, .none, 96), (8, .none, 224), (9, .acts, 510), (0, .none, 0), (10, .none, 1023), (11, .none, 2047), (12, .acts, 4095)] (by kernel_rfl) rfl (run1 ?_)
   refine Wd.val rfl (Xv.nilC rfl) rfl (Nat.le_refl _) (run1 ?_)
   refine Wd.read rfl (Xv.ldN rfl rfl rfl hw2) rfl eqV_wv ⟨Xv.ldN rfl rfl rfl hw2, trivial⟩ (run1 ?_)
   refine Wd.val rfl (Xv.nilC rfl) rfl (Nat.le_refl _) (run1 ?_)
   refine Wd.val rfl (Xv.slP (b := p) (o := 8) rfl rfl rfl (by decide)).1 rfl (Nat.le_refl _) (run1 ?_)
   refine Wd.call rfl (Xc.call ok126 rfl) rfl ((folded_ok h.ok (hT s2 (j3.trans k3)) (sc_ldr k1 hTl) hTl hTb).mono ?_)
   rintro v s' ⟨rfl, e'⟩; rw [e']; clear e' s'
   refine ⟨Nat.le_refl _, run1 ?_⟩
   refine Wd.val rfl (Xv.nilC rfl) rfl (Nat.le_refl _) (run1 ?_)
   refine Wd.st rfl rfl rfl rfl rfl rfl rfl (by intro v hv; simp only [wv, List.mem_cons, List.not_mem_nil, or_false] at hv; rcases hv with rfl | rfl | rfl | rfl | rfl | rfl | rfl | rfl <;> rfl) k1 (sc_le hTl (by decide)) ?_
   intro s3 m1 m2 m3
   have m1' : Rw s3 p (sc E (Dg.eb w (L.take 64)) (L.take 64) (n + A.length)) γ := by rw [← sc_words (w := w)]; exact m1
   have hd3 : Sl s3 q (A.map nB) δ := hd2.kp (k3.wf (j3.wf w0)) m3 hne
   refine run1 ?_
   obtain ⟨b, o, rfl⟩ := hd3.pos (fun e => by have := congrArg List.length e; rw [List.length_map] at this; simp at this; rw [this] at hge; simp at hge; omega)
   refine Wo.slL rfl rfl rfl rfl rfl rfl hd3 (by rw [List.length_map, Nat.mul_one]) hc (by omega) ?_
   intro q' c' r1 r2
   have eD : A.drop (64 - g) = L.drop 64 := by
    have en : (R.take g).drop 64 = [] := List.drop_eq_nil_of_le (by rw [List.length_take]; omega)
    rw [hL, List.drop_append, en, List.length_take, List.nil_append, show min g R.length = g by omega]
   have el : A.length - (64 - g) = L.length - 1 * 64 := by omega
   rw [Nat.mul_one, ← List.map_drop, eD] at r1
   rw [el] at r2 ⊢
   refine run1 ?_
   exact meet.n (s3, q', c', 1) ⟨by show 1 * 64 ≤ _; omega, ⟨L.take 64, m1', eb_ok hTl, hTl, hTb⟩, r1, r2, (m2.trans k2).trans j2, (j3.trans k3).trans m3⟩ (.cons rfl (.cons rfl .nil)) rfl
  ·refine run1 ?_
   have g0 : g = 0 := Nat.eq_zero_of_not_pos h0
   have eL : L = A := by rw [hL, g0]; rfl
   have el : L.length - 0 * 64 = A.length := by rw [eL]; omega
   refine meet.n (s1, q, c, 0) ⟨by show 0 * 64 ≤ _; omega, ⟨R, j1', h.ok, hlen, h.by'⟩, ?_, ?_, j2, j3⟩ (.cons rfl (.cons ?_ .nil)) rfl
   ·rw [Nat.zero_mul, List.drop_zero, eL]; exact hd1
   ·rw [el]; exact hc
   ·simp only [el]; rfl
 ·rintro a ha
  refine run1 ?_
  refine W.loop (α := St × Option Addr × Nat × Nat) (fun a => [(0, .pointer (some ⟨p, 0, none⟩)), (1, .slice a.2.1 (L.length - a.2.2.2 * 64) a.2.2.1)]) (fun _ => []) (fun a => a.1)
   (fun a => a.2.2.2 * 64 ≤ L.length ∧ (∃ R1, Sst a.1 p γ E (fwN a.2.2.2 w L) R1 (n + A.length)) ∧ Sl a.1 a.2.1 ((L.drop (a.2.2.2 * 64)).map nB) δ ∧ Cap (L.length - a.2.2.2 * 64) a.2.2.1 1 ∧ a.1.nx = s.nx ∧ Kp (fun c => c = γ) s a.1)
   (fun a => L.length - a.2.2.2 * 64) a ha (.cons rfl (.cons rfl .nil)) rfl rfl (by show L.length - _ < _; omega) ?_
  clear ha a
  rintro ⟨s2, q2, c2, k⟩ ⟨i1, ⟨R1, i2⟩, i3, i4, i5, i6⟩
  simp only at i1 i2 i3 i4 i5 i6
  dsimp only
  have wf2 := i6.wf w0
  by_cases h64 : 64 ≤ L.length - k * 64
  ·have hDl : ((L.drop (k * 64)).take 64).length = 64 := by rw [List.length_take, List.length_drop]; omega
   have hDb : ∀ x ∈ (L.drop (k * 64)).take 64, x < 256 := fun x hx => hLb x (List.mem_of_mem_drop (List.mem_of_mem_take hx))
   obtain ⟨b, o, rfl⟩ := i3.pos (fun e => by have := congrArg List.length e; rw [List.length_map, List.length_drop] at this; simp at this; omega)
   have hw2 := sc_ldw i2.rw
   have hb2 : At s2 (some ⟨b, o, none⟩) (((L.drop (k * 64)).take 64).map nB) := by rw [List.map_take]; exact (i3.take (n := 64)).at
   refine run1 ?_
   refine W.dr [(1, .none, 0), (2, .none, 2), (3, .none, 6), (4, .reads, 14), (5, .none, 0), (6, .none, 32), (7, .acts, 126), (0, .none, 0), (8, .none, 255), (9, .none, 511), (10, .acts, 1023)] (by kernel_rfl) rfl (run1 ?_)
   refine Wd.val rfl (Xv.nilC rfl) rfl (Nat.le_refl _) (run1 ?_)
   refine Wd.read rfl (Xv.ldN rfl rfl rfl hw2) rfl eqV_wv ⟨Xv.ldN rfl rfl rfl hw2, trivial⟩ (run1 ?_)
   refine Wd.val rfl (Xv.slH (h := 64) rfl rfl rfl rfl i4 h64) rfl (Nat.le_refl _) (run1 ?_)
   refine Wd.call rfl (Xc.call ok126 rfl) rfl ((folded_ok i2.ok (hT s2 i6) hb2 hDl hDb).mono ?_)
   rintro v s' ⟨rfl, e'⟩; rw [e']; clear e' s'
   refine ⟨Nat.le_refl _, run1 ?_⟩
   refine Wd.val rfl (Xv.nilC rfl) rfl (Nat.le_refl _) (run1 ?_)
   refine Wd.st rfl rfl rfl rfl rfl rfl rfl (by intro v hv; simp only [wv, List.mem_cons, List.not_mem_nil, or_false] at hv; rcases hv with rfl | rfl | rfl | rfl | rfl | rfl | rfl | rfl <;> rfl) i2.rw (sc_le i2.len (by decide)) ?_
   intro s3 m1 m2 m3
   have m1' : Rw s3 p (sc E (fwN (k + 1) w L) R1 (n + A.length)) γ := by rw [fwN_succ, ← sc_words (w := fwN k w L)]; exact m1
   have hd3 : Sl s3 (some ⟨b, o, none⟩) ((L.drop (k * 64)).map nB) δ := i3.kp wf2 m3 hne
   refine run1 ?_
   refine Wo.slL (l := 64) rfl rfl rfl rfl rfl rfl hd3 (by rw [List.length_map, List.length_drop, Nat.mul_one]) i4 h64 ?_
   intro q' c' r1 r2
   have el : L.length - k * 64 - 64 = L.length - (k + 1) * 64 := by omega
   rw [show 64 * 1 = 64 from rfl, ← List.map_drop, List.drop_drop, show k * 64 + 64 = (k + 1) * 64 by omega] at r1
   rw [el] at r2 ⊢
   refine run1 ?_
   exact rnd.n (s3, q', c', k + 1) ⟨by show (k + 1) * 64 ≤ _; omega, ⟨R1, m1', by rw [fwN_succ]; exact eb_ok hDl, i2.len, i2.by'⟩, r1, r2, m2.trans i5, i6.trans m3⟩ (by show L.length - (k + 1) * 64 < L.length - k * 64; omega) (.cons rfl (.cons rfl .nil)) rfl rfl
  ·refine run1 ?_
   refine Wo.val rfl (Xv.nilC rfl) rfl (run1 ?_)
   refine Wo.val rfl (Xv.slP (b := p) (o := 8) rfl rfl rfl (by decide)).1 rfl (run1 ?_)
   refine Wo.cpy rfl rfl rfl rfl rfl rfl rfl i2.rw i3.at (by rw [List.length_map, List.length_drop, Nat.mul_one]) one8 (sc_le i2.len (by decide)) ?_
   intro s3 m1 m2 m3
   have hmin : min (L.length - k * 64) 64 = L.length - k * 64 := by omega
   have hDl : (L.drop (k * 64)).length = L.length - k * 64 := List.length_drop
   simp only [hmin, Nat.mul_one, ← List.map_take] at m1
   rw [← hDl, List.take_length] at m1
   have m1' := m1
   rw [show 8 = 8 + 0 from rfl, sc_rest i2.len (by rw [hDl]; omega)] at m1'
   refine run1 ?_
   have e0 : L.length / 64 = k := by omega
   have e1 : L.length % 64 = (L.drop (k * 64)).length := by rw [hDl]; omega
   rw [e0, e1]
   refine Lv.nrm rfl ⟨⟨_, ⟨m1', i2.ok, ?_, ?_⟩, ?_⟩, m2.trans i5, i6.trans m3⟩
   ·simp only [List.length_append, List.length_take, List.length_drop, i2.len]; omega
   ·intro x hx
    rcases List.mem_append.1 hx with hx | hx
    ·exact i2.by' x (List.mem_of_mem_take hx)
    ·rcases List.mem_append.1 hx with hx | hx
     ·exact hLb x (List.mem_of_mem_drop hx)
     ·exact i2.by' x (List.mem_of_mem_drop hx)
   ·rw [List.take_zero, List.nil_append, List.take_left]
end Go.Proofs.YtcnhinnpieehoaaGreatDoor
namespace Go.Sy
open Go Go.Ev
section
variable {X : Fx} {env : Env} {s : St}
theorem Xv.sub56 {t t' : TypeId} {x y : Operand} {h : Nat} (hx : ev env x = some (nI 56)) (hy : ev env y = some (nI h)) (h2 : h < 64) {z : Int} (hz : z = 56 - (h : Int)) : Xv X (.binOp .sub t x y t') env s (.int .i64 z) s := by
 subst hz
 by_cases h1 : h ≤ 56
 ·have := Xv.subI (X := X) (s := s) (t := t) (t' := t') hx hy h1 (by decide)
  rw [show (56 - (h : Int)) = Int.ofNat (56 - h) by show _ = ((56 - h : Nat) : Int); omega]
  exact this
 intro tm hf
 show xBin X.P .sub t x y (opd tm x) (opd tm y) s = _
 rw [ev_opd hf hx, ev_opd hf hy]
 have : h = 57 ∨ h = 58 ∨ h = 59 ∨ h = 60 ∨ h = 61 ∨ h = 62 ∨ h = 63 := by omega
 rcases this with rfl | rfl | rfl | rfl | rfl | rfl | rfl <;> rfl
theorem Xv.add64 {t t' : TypeId} {x y : Operand} {h : Nat} {z : Int} (hx : ev env x = some (.int .i64 z)) (hy : ev env y = some (nI 64)) (h1 : 56 ≤ h) (h2 : h < 64) (hz : z = 56 - (h : Int)) : Xv X (.binOp .add t x y t') env s (nI (120 - h)) s := fun tm hf => by
 subst hz
 show xBin X.P .add t x y (opd tm x) (opd tm y) s = _
 rw [ev_opd hf hx, ev_opd hf hy]
 have : h = 56 ∨ h = 57 ∨ h = 58 ∨ h = 59 ∨ h = 60 ∨ h = 61 ∨ h = 62 ∨ h = 63 := by omega
 rcases this with rfl | rfl | rfl | rfl | rfl | rfl | rfl | rfl <;> rfl
end
end Go.Sy
namespace Go.Proofs.YtcnhinnpieehoaaGreatDoor
open Go Go.Ev Go.Sy
set_option maxRecDepth 100000
variable {s : St} {n : Nat}
def zend (n : Nat) : Nat := if n % 64 < 56 then 56 - n % 64 else 120 - n % 64
def pdN (n : Nat) : Nat → List Nat
 | 0 => (List.replicate 72 0).set 0 128
 | i + 1 => (pdN n i).set (zend n + i) (((8 * n) >>> (56 - 8 * i)) % 256)
theorem pdN_length : ∀ {i : Nat}, (pdN n i).length = 72
 | 0 => rfl
 | i + 1 => by rw [pdN, List.length_set, pdN_length]
theorem lay_set {L : List Nat} {i x : Nat} (hi : i < L.length) : lov (L.map nB) i [nB x] = (L.set i x).map nB := by
 unfold lov
 rw [List.set_eq_take_append_cons_drop, if_pos hi, List.map_append, List.map_take, List.map_cons, List.map_drop]; rfl
theorem zend_lt : zend n ≤ 64 := by unfold zend; split <;> omega
theorem pad_ok (w0 : Wf s) (hn : n < 2 ^ 60) : Cl B (.call 127 [nI n]) s fun v s' => v = .tuple ⟨[.agg ⟨(pdN n 8).map nB⟩, nI (zend n + 8)]⟩ ∧ Kn s s' := by
 refine Cl.enter Tryz.f127 fn127 rfl rfl rfl ?_
 refine run1 ?_
 obtain ⟨s1, hs1⟩ : ∃ s1, s1 = mkRow s ((List.replicate 72 0).map nB) := ⟨_, rfl⟩
 have c1 : Rw s1 s.nx ((List.replicate 72 0).map nB) s.nx := by rw [hs1]; exact mkRow_rw
 have c2 : s1.nx = s.nx + 1 := by rw [hs1]; rfl
 have c3 : Kn s s1 := by rw [hs1]; exact mkRow_kn
 have e1 : ∀ {X all os env df Q}, Wo X all os env df s1 Q → Wo X all os env df (mkRow s ((List.replicate 72 0).map nB)) Q := fun h => by rw [← hs1]; exact h
 refine e1 ?_
 clear e1 hs1
 obtain ⟨h, hh⟩ : ∃ h, h = n % 64 := ⟨_, rfl⟩
 have hm : n.mod 64 = h := hh.symm
 have h64 : h < 64 := by omega
 rw [hm]
 obtain ⟨z, hz⟩ : ∃ z : Int, z = 56 - (h : Int) := ⟨_, rfl⟩
 refine Wo.val rfl (Xv.sub56 rfl rfl h64 hz) rfl (run1 ?_)
 refine W.meet (α := Unit) (fun _ => [(0, nI n), (2, .pointer (some ⟨s.nx, 0, none⟩)), (4, nI (zend n))]) (fun _ => s1) (fun _ => True) ?_ ?_
 ·refine W.cond rfl (fun h0 => ?_) (fun h0 => ?_)
  ·have h1 : 56 ≤ h := by have : z < 1 := h0; omega
   refine run1 ?_
   refine Wo.val rfl (Xv.add64 rfl rfl h1 h64 hz) rfl (run1 ?_)
   have ez : 120 - h = zend n := by unfold zend; rw [← hh, if_neg (by omega)]
   rw [ez]
   exact meet.n () trivial (.cons rfl (.cons rfl (.cons rfl .nil))) rfl
  ·have h1 : h < 56 := by have : ¬ z < 1 := h0; omega
   refine run1 ?_
   have ez : z = Int.ofNat (zend n) := by rw [hz]; unfold zend; rw [← hh, if_pos h1]; show _ = ((56 - h : Nat) : Int); omega
   rw [ez]
   exact meet.n () trivial (.cons rfl (.cons rfl (.cons rfl .nil))) rfl
 rintro _ _
 clear hz z hh hm h64 h
 refine run1 ?_
 obtain ⟨s2, hs2⟩ : ∃ s2, s2 = mkRow s1 ((List.replicate 72 0).map nB) := ⟨_, rfl⟩
 have d1 : Rw s2 s1.nx ((List.replicate 72 0).map nB) s1.nx := by rw [hs2]; exact mkRow_rw
 have d2 : s2.nx = s1.nx + 1 := by rw [hs2]; rfl
 have d3 : Kn s1 s2 := by rw [hs2]; exact mkRow_kn
 have e2 : ∀ {X all os env df Q}, Wo X all os env df s2 Q → Wo X all os env df (mkRow s1 ((List.replicate 72 0).map nB)) Q := fun h => by rw [← hs2]; exact h
 refine e2 ?_
 clear e2 hs2
 have w1 : Wf s1 := c3.wf w0
 have w2 : Wf s2 := d3.wf w1
 refine Wo.val rfl (Xv.iaP (i := 0) rfl rfl rfl rfl (by decide)) rfl (run1 ?_)
 refine Wo.st rfl rfl rfl rfl rfl rfl rfl (oo1 rfl) d1 (by rw [List.length_map, List.length_replicate]; decide) ?_
 intro s3 j1 j2 j3
 have j1' : Rw s3 s1.nx ((pdN n 0).map nB) s1.nx := by
  have : lov ((List.replicate 72 0).map nB) (0 + 0 * 1) [nB 128] = (pdN n 0).map nB := by rw [Nat.zero_mul, Nat.zero_add, lay_set (by rw [List.length_replicate]; decide)]; rfl
  rw [← this]; exact j1
 clear j1
 have k3 : Kp (fun c => c = s1.nx) s1 s3 := (d3.w).trans j3
 have c1' : Rw s3 s.nx ((List.replicate 72 0).map nB) s.nx := c1.kp w1 k3 (by omega)
 refine run1 ?_
 have hz := zend_lt (n := n)
 refine W.loop (α := Nat × St) (fun p => [(2, .pointer (some ⟨s.nx, 0, none⟩)), (4, nI (zend n)), (5, .pointer (some ⟨s1.nx, 0, none⟩)), (6, .int .u64 (.ofNat (8 * n))), (19, nI p.1)]) (fun _ => []) (fun p => p.2)
  (fun p => p.1 ≤ 8 ∧ Rw p.2 s1.nx ((pdN n p.1).map nB) s1.nx ∧ p.2.nx = s3.nx ∧ Kp (fun c => c = s1.nx) s1 p.2) (fun p => 8 - p.1) (0, s3) ⟨Nat.zero_le _, j1', rfl, k3⟩ (.cons rfl (.cons rfl (.cons rfl (.cons ?_ (.cons rfl .nil))))) rfl rfl (by show 8 - 0 < _; omega) ?_
 ·have e8 : (Nat.mul 8 (n.mod 18446744073709551616)).mod 18446744073709551616 = 8 * n := by
   rw [show n.mod 18446744073709551616 = n from Nat.mod_eq_of_lt (by omega)]
   exact Nat.mod_eq_of_lt (by show 8 * n < _; omega)
  show some (Value.int .u64 (.ofNat ((Nat.mul 8 (n.mod 18446744073709551616)).mod 18446744073709551616))) = _
  rw [e8]
 rintro ⟨i, s4⟩ ⟨i1, i2, i3, i4⟩
 simp only at i1 i2 i3 i4
 dsimp only
 by_cases hi : i < 8
 ·refine run1 ?_
  have hsh : arN .shr .u64 (8 * n) (56 - 8 * i) = some ((8 * n) >>> (56 - 8 * i)) := by
   show cond (Nat.ble (56 - 8 * i) 64) (some _) none = _
   rw [show Nat.ble (56 - 8 * i) 64 = true from Nat.ble_eq_true_of_le (by omega)]; rfl
  refine Wo.val rfl (Xv.ar (k := .u64) (k' := .i64) rfl rfl rfl hsh) rfl (run1 ?_)
  refine Wo.val rfl (Xv.iaP rfl rfl rfl rfl (show zend n + i < 72 by omega)) rfl (run1 ?_)
  refine Wo.st rfl rfl rfl rfl rfl rfl rfl (oo1 rfl) i2 (by rw [List.length_map, pdN_length]; omega) ?_
  intro s5 m1 m2 m3
  have m1' : Rw s5 s1.nx ((pdN n (i + 1)).map nB) s1.nx := by
   rw [pdN, ← lay_set (by rw [pdN_length]; omega), show zend n + i = 0 + (zend n + i) * 1 by omega]
   exact m1
  refine run1 ?_
  exact rnd.n (i + 1, s5) ⟨hi, m1', m2.trans i3, i4.trans m3⟩ (by show 8 - (i + 1) < 8 - i; omega) (.cons rfl (.cons rfl (.cons rfl (.cons rfl (.cons rfl .nil))))) rfl rfl
 ·have e : i = 8 := by omega
  subst e
  have w4 : Wf s4 := i4.wf w1
  have c4 : Rw s4 s.nx ((List.replicate 72 0).map nB) s.nx := c1.kp w1 i4 (by omega)
  have hld : ldn s4 (some ⟨s1.nx, 0, none⟩) 72 = some ((pdN n 8).map nB) := by
   have := (Rw.ats i2).ldn (i := 0) (n := 72) (by rw [List.length_map, pdN_length]; omega) (by decide)
   rw [List.drop_zero, List.take_of_length_le (by rw [List.length_map, pdN_length]; omega)] at this
   exact this
  refine run1 ?_
  refine Wo.st rfl rfl rfl rfl rfl rfl (by rw [List.length_map, pdN_length]) (by intro v hv; obtain ⟨x, _, rfl⟩ := List.mem_map.1 hv; rfl) c4 (by rw [List.length_map, List.length_replicate]; decide) ?_
  intro s5 m1 m2 m3
  rw [lov_all (by rw [List.length_map, List.length_map, pdN_length, List.length_replicate])] at m1
  refine run1 ?_
  have hc := cell_at (B := B) (t := 189) (n := 72) (k := .ar 72 5) rfl rfl m1 (by rw [List.length_map, pdN_length]) rfl
  refine Lv.ret (vs := [.agg ⟨(pdN n 8).map nB⟩, nI (zend n + 8)]) ?_ ⟨rfl, ?_⟩
  ·show (match cell1 B.P (.pointer (some ⟨s.nx, 0, none⟩)) 189 s5, some [nI (zend n + 8)] with | some v, some vs => some (v :: vs) | _, _ => none) = _
   rw [hc]
  ·exact Kp.new (N := s.nx) .refl (((c3.w).trans (i4.mono fun c h => by subst h; omega)).trans (m3.mono fun c h => by subst h; exact Nat.le_refl _)) (Nat.le_refl _)
open Go Go.Ev Go.Sy
set_option maxRecDepth 100000
variable {s : St} {p γ n : Nat} {w : W8} {R : List Nat} {E : List Value}
def wl (w : W8) : List Nat := [w.a, w.b, w.c, w.d, w.e, w.f, w.g, w.h]
def sumN (w : W8) : Nat → List Nat
 | 0 => List.replicate 32 0
 | i + 1 => ((((sumN w i).set (4 * i) (((wl w).getD i 0 >>> 24) % 256)).set (4 * i + 1) (((wl w).getD i 0 >>> 16) % 256)).set (4 * i + 2) (((wl w).getD i 0 >>> 8) % 256)).set (4 * i + 3) ((wl w).getD i 0 % 256)
theorem sumN_length : ∀ {i : Nat}, (sumN w i).length = 32
 | 0 => rfl
 | i + 1 => by simp only [sumN, List.length_set]; exact sumN_length
theorem set_byte {l : List Nat} {i x : Nat} (h : ∀ y ∈ l, y < 256) (hx : x < 256) : ∀ y ∈ l.set i x, y < 256 := fun y hy => by
 rcases List.mem_or_eq_of_mem_set hy with h' | h'
 ·exact h y h'
 ·rw [h']; exact hx
theorem sumN_byte : ∀ {i : Nat}, ∀ y ∈ sumN w i, y < 256
 | 0 => fun y hy => by rw [List.eq_of_mem_replicate hy]; decide
 | i + 1 => set_byte (set_byte (set_byte (set_byte sumN_byte (Nat.mod_lt _ (by decide))) (Nat.mod_lt _ (by decide))) (Nat.mod_lt _ (by decide))) (Nat.mod_lt _ (by decide))
theorem pdN_byte : ∀ {i : Nat}, ∀ y ∈ pdN n i, y < 256
 | 0 => set_byte (fun y hy => by rw [List.eq_of_mem_replicate hy]; decide) (by decide)
 | i + 1 => set_byte pdN_byte (Nat.mod_lt _ (by decide))
theorem wv_get {i : Nat} (hi : i < 8) : (wv w)[i * 1]? = some (.int .u32 (.ofNat ((wl w).getD i 0))) := by
 have : i = 0 ∨ i = 1 ∨ i = 2 ∨ i = 3 ∨ i = 4 ∨ i = 5 ∨ i = 6 ∨ i = 7 := by omega
 rcases this with rfl | rfl | rfl | rfl | rfl | rfl | rfl | rfl <;> rfl
def padL (n : Nat) : List Nat := (pdN n 8).take (zend n + 8)
theorem padL_length : (padL n).length = zend n + 8 := by have := zend_lt (n := n); unfold padL; rw [List.length_take, pdN_length]; omega
def endW (w : W8) (R : List Nat) (n : Nat) : W8 := fwN ((n % 64 + (padL n).length) / 64) w (R.take (n % 64) ++ padL n)
theorem sc_front (h : R.length = 64) : (sc E w R n).take 73 = sc [] w R n := by
 unfold sc
 have e : wv w ++ (R.map nB ++ nI n :: E) = (wv w ++ (R.map nB ++ [nI n])) ++ E := by simp
 rw [e, List.take_left' (by simp [wv, h])]
set_option maxHeartbeats 2000000 in
theorem ssum_ok (w0 : Wf s) (hT : TabAt s) (h : Sst s p γ E w R n) (hn : n < 2 ^ 59) : Cl B (.call 121 [.pointer (some ⟨p, 0, none⟩)]) s fun v s' => v = hsh (sumN (endW w R n) 8) ∧ Kn s s' := by
 have hlen := h.len
 have hgd : good (some ⟨p, 0, none⟩) := ⟨_, _, rfl⟩
 refine Cl.enter Tryz.f121 fn121 rfl rfl rfl ?_
 refine run1 ?_
 refine mkO (cs := (List.replicate 32 0).map nB) ?_
 intro s1 c1 c2 c3
 have w1 : Wf s1 := c3.wf w0
 have h1 : Rw s1 p (sc E w R n) γ := h.rw.kp w0 c3 id
 refine Wo.val rfl (Xv.pEq rfl rfl rfl) rfl (run1 ?_)
 refine Wo.val rfl (Xv.nilC rfl) rfl ?_
 have hl1 : ldn s1 (some ⟨p, 0, none⟩) 73 = some (sc [] w R n) := by
  have := (Rw.ats h1).ldn (i := 0) (n := 73) (sc_le hlen (by decide)) (by decide)
  rw [List.drop_zero, sc_front hlen] at this
  exact this
 refine run1 ?_
 refine mkO (cs := sc [] ⟨0, 0, 0, 0, 0, 0, 0, 0⟩ (List.replicate 64 0) 0) ?_
 intro s2 d1 d2 d3
 have w2 : Wf s2 := d3.wf w1
 refine Wo.st rfl rfl rfl rfl rfl rfl (by rw [sc_length, hlen]; rfl) (by
  intro v hv
  unfold sc wv at hv
  rcases List.mem_append.1 hv with hv | hv
  ·simp only [List.mem_cons, List.not_mem_nil, or_false] at hv; rcases hv with rfl | rfl | rfl | rfl | rfl | rfl | rfl | rfl <;> rfl
  ·rcases List.mem_append.1 hv with hv | hv
   ·obtain ⟨x, _, rfl⟩ := List.mem_map.1 hv; rfl
   ·rw [List.mem_singleton] at hv; rw [hv]; rfl) d1 (sc_le rfl (by decide)) ?_
 intro s3 j1 j2 j3
 rw [lov_all (by rw [sc_length, sc_length, hlen]; rfl)] at j1
 have w3 : Wf s3 := j3.wf w2
 have k13 : Kp (fun c => s1.nx ≤ c) s1 s3 := (d3.w).trans (j3.mono fun c h => by subst h; exact Nat.le_refl _)
 have h3 : Rw s3 p (sc E w R n) γ := by
  obtain ⟨gg, g1, g2⟩ := h1
  exact Rw.kp ⟨gg, g1, g2⟩ w1 k13 (by have := (w1.lt p _ g1).2; rw [show colr p (.row (sc E w R n) gg) = γ from g2] at this; omega)
 have hld : ldq s3 (qadd (some ⟨p, 0, none⟩) 72) = some (nI n) := by
  rw [(Rw.ats h3).ld (i := 72) (by rw [sc_length]; omega)]
  congr 1
  simp only [sc]
  rw [List.getElem_append_right (by simp [wv]), List.getElem_append_right (by simp [wv]; omega)]
  simp [wv, hlen]
 refine run1 ?_
 refine Wo.val rfl (Xv.nilC rfl) rfl (run1 ?_)
 refine Wo.call rfl (Xc.call ok127 rfl) rfl ((pad_ok w3 (by omega)).mono ?_)
 rintro v s4 ⟨rfl, k4⟩
 have w4 : Wf s4 := k4.wf w3
 refine run1 ?_
 refine mkO (cs := (List.replicate 72 0).map nB) ?_
 intro s5 m1 m2 m3
 have w5 : Wf s5 := m3.wf w4
 refine Wo.st rfl rfl rfl rfl rfl rfl (by rw [List.length_map, pdN_length]) (by intro v hv; obtain ⟨x, _, rfl⟩ := List.mem_map.1 hv; rfl) m1 (by rw [List.length_map, List.length_replicate]; decide) ?_
 intro s6 n1 n2 n3
 rw [lov_all (by rw [List.length_map, List.length_map, pdN_length, List.length_replicate])] at n1
 have w6 : Wf s6 := n3.wf w5
 have hz := zend_lt (n := n)
 refine run1 ?_
 refine Wo.val rfl ((Xv.slP (b := s4.nx) (o := 0) rfl rfl rfl (by decide)).2.2 rfl (show zend n + 8 ≤ 72 by omega)) rfl (run1 ?_)
 have nx3 : s3.nx = s1.nx + 1 := j2.trans d2
 have nx4 : s3.nx ≤ s4.nx := k4.le
 have nx6 : s6.nx = s4.nx + 1 := n2.trans m2
 have hst : Rw s6 s1.nx (sc [] w R n) s1.nx := ((j1.kp w3 k4 id).kp w4 m3 id).kp w5 n3 (by omega)
 have kb6 : Kp (fun c => s.nx ≤ c) s s6 := ((((c3.w).trans (k13.mono fun c h => Nat.le_trans (by omega) h)).trans (k4.w)).trans (m3.w)).trans (n3.mono fun c h => by subst h; omega)
 have hdat : Sl s6 (some ⟨s4.nx, 0, none⟩) ((padL n).map nB) s4.nx := by
  have := (n1.sl (o := 0) (n := ((pdN n 8).map nB).length) (Nat.le_of_eq (Nat.zero_add _))).take (n := zend n + 8)
  rw [List.drop_zero, List.take_length, ← List.map_take] at this
  exact this
 have hwr := write_ok (c := sure 72) (A := padL n) w6 (fun s' k => hT.kpN w0 (kb6.trans (k.mono fun c h => by subst h; omega))) ⟨hst, h.ok, hlen, h.by'⟩ hdat (by omega) (Cap.sure (by rw [padL_length]; omega)) (fun x hx => pdN_byte x (List.mem_of_mem_take hx)) (by omega) (by rw [padL_length]; omega)
 rw [padL_length] at hwr
 refine Wo.call rfl (Xc.call ok120 rfl) rfl (hwr.mono ?_)
 rintro v s7 ⟨⟨R', o1, _⟩, o2, o3⟩
 rw [← padL_length] at o1
 obtain ⟨w', hw'⟩ : ∃ w', w' = endW w R n := ⟨_, rfl⟩
 have o1' : Rw s7 s1.nx (sc [] w' R' (n + (padL n).length)) s1.nx := by rw [hw']; exact o1.rw
 rw [← hw']
 have w7 : Wf s7 := o3.wf w6
 have hgd1 : good (some ⟨s1.nx, 0, none⟩) := ⟨_, _, rfl⟩
 refine run1 ?_
 refine mkO (cs := (List.replicate 32 0).map nB) ?_
 intro s8 p1 p2 p3
 have w8 : Wf s8 := p3.wf w7
 have hlw := sc_ldw (o1'.kp w7 p3 id)
 have kb8 : Kp (fun c => s.nx ≤ c) s s8 := (kb6.trans (o3.mono fun c h => by subst h; omega)).trans (p3.w)
 refine run1 ?_
 have c8 : Rw s8 s.nx ((List.replicate 32 0).map nB) s.nx := ((((((c1.kp w1 k13 (by omega)).kp w3 k4 id).kp w4 m3 id).kp w5 n3 (by omega)).kp w6 o3 (by omega)).kp w7 p3 id)
 have nx8 : s8.nx = s7.nx + 1 := p2
 refine W.loop (α := Nat × St) (fun q => [(2, .pointer (some ⟨s.nx, 0, none⟩)), (6, .pointer (some ⟨s7.nx, 0, none⟩)), (27, .agg ⟨wv w'⟩), (28, nI q.1)]) (fun _ => []) (fun q => q.2)
  (fun q => q.1 ≤ 8 ∧ Rw q.2 s7.nx ((sumN w' q.1).map nB) s7.nx ∧ q.2.nx = s8.nx ∧ Kp (fun c => c = s7.nx) s8 q.2) (fun q => 8 - q.1) (0, s8) ⟨Nat.zero_le _, p1, rfl, .refl⟩ (.cons rfl (.cons rfl (.cons rfl (.cons rfl .nil)))) rfl rfl (by show 8 - 0 < _; omega) ?_
 rintro ⟨i, t0⟩ ⟨i1, i2, i3, i4⟩
 simp only at i1 i2 i3 i4
 dsimp only
 by_cases hi : i < 8
 ·refine run1 ?_
  refine Wo.val rfl (Xv.ixA rfl rfl rfl rfl rfl hi (wv_get hi)) rfl (run1 ?_)
  refine Wo.val rfl (Xv.iaP rfl rfl rfl rfl (show 4 * i < 32 by omega)) rfl (run1 ?_)
  refine Wo.st rfl rfl rfl rfl rfl rfl rfl (oo1 rfl) i2 (by rw [List.length_map]; simp only [sumN_length]; omega) ?_
  intro u0 x0 y0 z0
  have x0' : Rw u0 s7.nx (((sumN w' i).set (4 * i) (((wl w').getD i 0 >>> 24) % 256)).map nB) s7.nx := by
   rw [← lay_set (by simp only [sumN_length]; omega), show 4 * i = 0 + (4 * i) * 1 by omega]
   exact x0
  clear x0
  refine run1 ?_
  refine Wo.val rfl (Xv.iaP rfl rfl rfl rfl (show 4 * i + 1 < 32 by omega)) rfl (run1 ?_)
  refine Wo.st rfl rfl rfl rfl rfl rfl rfl (oo1 rfl) x0' (by rw [List.length_map]; simp only [List.length_set, sumN_length]; omega) ?_
  intro u1 x1 y1 z1
  have x1' : Rw u1 s7.nx ((((sumN w' i).set (4 * i) (((wl w').getD i 0 >>> 24) % 256)).set (4 * i + 1) (((wl w').getD i 0 >>> 16) % 256)).map nB) s7.nx := by
   rw [← lay_set (by simp only [List.length_set, sumN_length]; omega), show 4 * i + 1 = 0 + (4 * i + 1) * 1 by omega]
   exact x1
  clear x1
  refine run1 ?_
  refine Wo.val rfl (Xv.iaP rfl rfl rfl rfl (show 4 * i + 2 < 32 by omega)) rfl (run1 ?_)
  refine Wo.st rfl rfl rfl rfl rfl rfl rfl (oo1 rfl) x1' (by rw [List.length_map]; simp only [List.length_set, sumN_length]; omega) ?_
  intro u2 x2 y2 z2
  have x2' : Rw u2 s7.nx (((((sumN w' i).set (4 * i) (((wl w').getD i 0 >>> 24) % 256)).set (4 * i + 1) (((wl w').getD i 0 >>> 16) % 256)).set (4 * i + 2) (((wl w').getD i 0 >>> 8) % 256)).map nB) s7.nx := by
   rw [← lay_set (by simp only [List.length_set, sumN_length]; omega), show 4 * i + 2 = 0 + (4 * i + 2) * 1 by omega]
   exact x2
  clear x2
  refine run1 ?_
  refine Wo.val rfl (Xv.iaP rfl rfl rfl rfl (show 4 * i + 3 < 32 by omega)) rfl (run1 ?_)
  refine Wo.st rfl rfl rfl rfl rfl rfl rfl (oo1 rfl) x2' (by rw [List.length_map]; simp only [List.length_set, sumN_length]; omega) ?_
  intro u3 x3 y3 z3
  have x3' : Rw u3 s7.nx ((((((sumN w' i).set (4 * i) (((wl w').getD i 0 >>> 24) % 256)).set (4 * i + 1) (((wl w').getD i 0 >>> 16) % 256)).set (4 * i + 2) (((wl w').getD i 0 >>> 8) % 256)).set (4 * i + 3) ((wl w').getD i 0 % 256)).map nB) s7.nx := by
   rw [← lay_set (by simp only [List.length_set, sumN_length]; omega), show 4 * i + 3 = 0 + (4 * i + 3) * 1 by omega]
   exact x3
  clear x3
  refine run1 ?_
  exact rnd.n (i + 1, u3) ⟨hi, x3', (((y3.trans y2).trans y1).trans y0).trans i3, (((i4.trans z0).trans z1).trans z2).trans z3⟩ (by show 8 - (i + 1) < 8 - i; omega) (.cons rfl (.cons rfl (.cons rfl (.cons rfl .nil)))) rfl rfl
 ·have e : i = 8 := by omega
  subst e
  obtain ⟨D, hD⟩ : ∃ D, D = sumN w' 8 := ⟨_, rfl⟩
  have hDl : D.length = 32 := by rw [hD]; exact sumN_length
  rw [← hD] at i2 ⊢
  have hls : ldn t0 (some ⟨s7.nx, 0, none⟩) 32 = some (D.map nB) := by
   have := (Rw.ats i2).ldn (i := 0) (n := 32) (by rw [List.length_map, hDl]; omega) (by decide)
   rw [List.drop_zero, List.take_of_length_le (by rw [List.length_map, hDl]; omega)] at this
   exact this
  refine run1 ?_
  refine Wo.st rfl rfl rfl rfl rfl rfl (by rw [List.length_map, hDl]) (by intro v hv; obtain ⟨x, _, rfl⟩ := List.mem_map.1 hv; rfl) (c8.kp w8 i4 (by have := w7.one; have := o2; omega)) (by rw [List.length_map, List.length_replicate]; decide) ?_
  intro t1 q1 q2 q3
  rw [lov_all (by rw [List.length_map, List.length_map, hDl, List.length_replicate])] at q1
  refine run1 ?_
  have hc := cell_at (B := B) (t := 23) (n := 32) (k := .ar 32 5) rfl rfl q1 (by rw [List.length_map, hDl]) rfl
  refine Lv.ret (vs := [.agg ⟨D.map nB⟩]) ?_ ⟨rfl, ?_⟩
  ·show (match cell1 B.P (.pointer (some ⟨s.nx, 0, none⟩)) 23 t1, some [] with | some v, some vs => some (v :: vs) | _, _ => none) = _
   rw [hc]
  ·exact Kp.new (N := s.nx) .refl ((kb8.trans (i4.mono fun c h => by subst h; have := o2; omega)).trans (q3.mono fun c h => by subst h; exact Nat.le_refl _)) (Nat.le_refl _)
end Go.Proofs.YtcnhinnpieehoaaGreatDoor
