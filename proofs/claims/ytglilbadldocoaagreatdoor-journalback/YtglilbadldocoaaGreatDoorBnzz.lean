import Derived.Test.YtglilbadldocoaaGreatDoorBizz
namespace Go.Sy
open Go Go.Ev
theorem Sl.lt {s : St} {q : Option Addr} {cs : List Value} {γ : Nat} (h : Sl s q cs γ) (w : Wf s) (h0 : cs ≠ []) : γ < s.nx := by
 rcases h with ⟨e, _⟩ | ⟨b', o, ob, l', e, k1, k2, k3, _⟩
 ·exact absurd e h0
 ·rw [← k3]; exact (w.lt _ _ k1).2
def Ls (s : St) (g : Nat) (v : Value) (L : List (List Nat)) (C G : Nat → Prop) : Prop :=
 C g ∧ ∃ q c, ∃ P : List (Value × List Nat), v = .slice q P.length c ∧ 0 < P.length ∧ Gw s q P.length c 1 (P.map Prod.fst) g ∧ L = P.map Prod.snd ∧ ∀ x ∈ P, ∃ qa ca γa, x.1 = .slice qa x.2.length ca ∧ Sl s qa (x.2.map nB) γa ∧ C γa ∧ ¬ G γa
theorem Ls.kp {s s' : St} {g : Nat} {v : Value} {L : List (List Nat)} {C G D : Nat → Prop} (h : Ls s g v L C G) (w : Wf s) (k : Kp D s s') (hg : ¬ D g) (hC : ∀ c, C c → ¬ G c → ¬ D c) : Ls s' g v L C G := by
 obtain ⟨h1, q, c, P, h2, h3, h4, h5, h6⟩ := h
 refine ⟨h1, q, c, P, h2, h3, h4.kp w k hg, h5, fun x hx => ?_⟩
 obtain ⟨qa, ca, γa, a1, a2, a3, a4⟩ := h6 x hx
 exact ⟨qa, ca, γa, a1, a2.kp w k (hC _ a3 a4), a3, a4⟩
theorem Ls.mono {s : St} {g : Nat} {v : Value} {L : List (List Nat)} {C G C' G' : Nat → Prop} (h : Ls s g v L C G) (hC : ∀ c, C c → C' c) (hG : ∀ c, C c → G' c → G c) : Ls s g v L C' G' := by
 obtain ⟨h1, q, c, P, h2, h3, h4, h5, h6⟩ := h
 refine ⟨hC _ h1, q, c, P, h2, h3, h4, h5, fun x hx => ?_⟩
 obtain ⟨qa, ca, γa, a1, a2, a3, a4⟩ := h6 x hx
 exact ⟨qa, ca, γa, a1, a2, hC _ a3, fun e => a4 (hG _ a3 e)⟩
theorem Ls.strs {s : St} {g : Nat} {v : Value} {L : List (List Nat)} {C G : Nat → Prop} (h : Ls s g v L C G) : ∃ q c, ∃ P : List (Value × List Nat), v = .slice q P.length c ∧ L = P.map Prod.snd ∧ At s q (P.map Prod.fst) ∧ ∀ x ∈ P, ∃ q c, x.1 = .slice q x.2.length c ∧ At s q (x.2.map nB) := by
 obtain ⟨_, q, c, P, h2, _, h4, h5, h6⟩ := h
 refine ⟨q, c, P, h2, h5, h4.sl.at, fun x hx => ?_⟩
 obtain ⟨qa, ca, γa, a1, a2, _⟩ := h6 x hx
 exact ⟨qa, ca, a1, a2.at⟩
def lsc (M : MpE) (col : List Nat → Nat) (c : Nat) : Prop := ∃ H v, mget H M = some v ∧ c = col H
structure Nt (s : St) (r : Nat) (K : List Nat → List (List Nat)) (C : Nat → Prop) (m : Nat) : Prop where
 ex : ∃ (M : MpE) (col : List Nat → Nat), Mp s r M ∧ (∀ H, mget H M = none → K H = []) ∧ ∀ H v, mget H M = some v → Ls s (col H) v (K H) C (lsc M col) ∧ ∀ H' v', mget H' M = some v' → col H' = col H → H' = H
 ris : ∀ H, Ris (K H)
 byt : ∀ H, ∀ x ∈ K H, ∀ y ∈ x, y < 256
 len : ∀ H, (K H).length ≤ m
 old : ∀ c, C c → c < s.nx
theorem Nt.kp {s s' : St} {r : Nat} {K : List Nat → List (List Nat)} {C D : Nat → Prop} {m : Nat} (h : Nt s r K C m) (w : Wf s) (k : Kp D s s') (hr : ¬ D r) (hC : ∀ c, C c → ¬ D c) : Nt s' r K C m := by
 obtain ⟨⟨M, col, h1, h2, h3⟩, a, b, c, d⟩ := h
 exact ⟨⟨M, col, h1.kp w k hr, h2, fun H v hv => ⟨(h3 H v hv).1.kp w k (hC _ (h3 H v hv).1.1) (fun c hc _ => hC c hc), (h3 H v hv).2⟩⟩, a, b, c, fun c hc => Nat.lt_of_lt_of_le (d c hc) k.le⟩
theorem Nt.nil {s : St} {r : Nat} (h : Mp s r []) : Nt s r (fun _ => []) (fun _ => False) 0 :=
 ⟨⟨[], fun _ => 0, h, fun _ _ => rfl, (fun _ _ h => by cases h)⟩, fun _ => List.Pairwise.nil, (fun _ _ h => by cases h), fun _ => Nat.le_refl _, fun _ h => absurd h id⟩
def kput (K : List Nat → List (List Nat)) (H A : List Nat) : List Nat → List (List Nat) := fun X => if X = H then (K H).take (pos A (K H)) ++ A :: (K H).drop (pos A (K H)) else K X
theorem kput_mem {K : List Nat → List (List Nat)} {H A X D : List Nat} : D ∈ kput K H A X ↔ (X = H ∧ D = A) ∨ D ∈ K X := by
 unfold kput
 by_cases h : X = H
 ·subst h
  rw [if_pos rfl, List.mem_append, List.mem_cons]
  have e : D ∈ K X ↔ D ∈ (K X).take (pos A (K X)) ∨ D ∈ (K X).drop (pos A (K X)) := by rw [← List.mem_append, List.take_append_drop]
  rw [e]
  constructor
  ·rintro (h | h | h)
   ·exact .inr (.inl h)
   ·exact .inl ⟨rfl, h⟩
   ·exact .inr (.inr h)
  ·rintro (⟨_, h⟩ | h | h)
   ·exact .inr (.inl h)
   ·exact .inl h
   ·exact .inr (.inr h)
 ·rw [if_neg h]
  exact ⟨.inr, fun e => e.elim (fun e => absurd e.1 h) id⟩
end Go.Sy
namespace Go.Proofs.YtglilbadldocoaaGreatDoor
open Go Go.Ev Go.Sy
set_option maxRecDepth 100000
variable {s : St} {γ δ : Nat} {q r : Option Addr} {A D : List Nat} {c d : Nat}
theorem nt_find {r m : Nat} {K : List Nat → List (List Nat)} {C : Nat → Prop} {H : List Nat} (h : Nt s r K C m) (hm : m < 2 ^ 60) (hD : ∀ x ∈ D, x < 256) :
  ∃ M ql k cl, Mp s r M ∧ (mget H M).getD (.slice none 0 0) = .slice ql k cl ∧ ∀ {s' : St} {q : Option Addr} {d : Nat}, (∀ q cs, At s q cs → At s' q cs) → At s' q (D.map nB) → Cl B (.call 95 [.slice ql k cl, .slice q D.length d, bcf]) s' fun v s'' => v = .tuple ⟨[nI (pos D (K H)), .bool (decide (D ∈ K H))]⟩ ∧ s'' = s' := by
 obtain ⟨⟨M, col, h1, h2, h3⟩, a, b, c, _⟩ := h
 cases hg : mget H M with
 | none =>
  refine ⟨M, none, 0, 0, h1, by rw [hg]; rfl, fun _ _ => ?_⟩
  rw [h2 H hg]
  exact bs0_ok
 | some v =>
  obtain ⟨q, cl, P, rfl, h5, h6, h7⟩ := (h3 H v hg).1.strs
  refine ⟨M, q, P.length, cl, h1, by rw [hg]; rfl, fun hk hq => ?_⟩
  have hR := a H
  have hb := b H
  have hl := c H
  rw [h5] at hR hb hl ⊢
  rw [List.length_map] at hl
  refine search_ok ⟨hk _ _ h6, fun x hx => ?_⟩ hq (by omega) hR (fun x hx y hy => hb x.2 (List.mem_map_of_mem hx) y hy) hD
  obtain ⟨q, c, e1, e2⟩ := h7 x hx
  exact ⟨q, c, e1, hk _ _ e2⟩
theorem nhas_ok {b o rr m : Nat} {l : List Value} {K : List Nat → List (List Nat)} {C : Nat → Prop} {H : List Nat} (w0 : Wf s) (hb : Rw s b l γ) (hm : l[o]? = some (.map (some rr))) (hN : Nt s rr K C m) (hmm : m < 2 ^ 60) (hH : H.length = 32) (hD : ∀ x ∈ D, x < 256) (hq : At s q (D.map nB)) :
  Cl B (.call 68 [.pointer (some ⟨b, o, none⟩), hsh H, .slice q D.length c]) s fun v s' => v = .bool (decide (D ∈ K H)) ∧ Kn s s' := by
 obtain ⟨M, ql, k, cl, h1, h2, h3⟩ := nt_find (H := H) hN hmm hD
 exact has_ok (i := pos D (K H)) w0 hb hm h1 hH h2 fun s' k => h3 (fun _ _ h => h.kn w0 k) (hq.kn w0 k)
theorem insA_ok {v : Value} {n i vb g : Nat} {xs : List Value} (w0 : Wf s) (hg : Gw s q n c 1 xs g) (h0 : 0 < n ∨ (q = none ∧ n = 0 ∧ c = 0)) (hi : i ≤ n) (hn : n < 1099511627776) (h1 : ∀ x ∈ xs, one x = true) (hv : one v = true) (hl : s.hp.get vb = some (.row [v] 0)) (hvb : vb ≠ g) :
  Cl B (.call 61 [.slice q n c, nI i, .slice (some ⟨vb, 0, none⟩) 1 (sure 1)]) s fun u s' => ∃ q' c' γ', u = .slice q' (n + 1) c' ∧ Gw s' q' (n + 1) c' 1 (xs.take i ++ v :: xs.drop i) γ' ∧ ((0 < n ∧ γ' = g) ∨ s.nx ≤ γ') ∧ Kp (fun c => 0 < n ∧ c = g) s s' := by
 rcases h0 with h0 | ⟨rfl, rfl, rfl⟩
 ·refine (insert_ok w0 hg h0 hi hn h1 hv hl hvb).mono ?_
  rintro u s' ⟨q', c', γ', rfl, h2, h3, h4⟩
  exact ⟨q', c', γ', rfl, h2, h3.imp (fun e => ⟨h0, e⟩) id, h4.mono fun _ e => ⟨h0, e⟩⟩
 ·obtain rfl : i = 0 := by omega
  have hx : xs = [] := List.eq_nil_of_length_eq_zero (by have := hg.len; omega)
  subst hx
  have hat : At s (some ⟨vb, 0, none⟩) [v] := .inr ⟨vb, 0, rfl, by rw [readAt_of (.inr ⟨0, hl⟩) (by simp)]; rfl⟩
  refine (insert0_ok w0 hat hv).mono ?_
  rintro u s' ⟨q', c', γ', rfl, h2, h3, h4⟩
  exact ⟨q', c', γ', rfl, h2, .inr h3, h4.w⟩
theorem nt_list {K : List Nat → List (List Nat)} {C : Nat → Prop} {H : List Nat} {M : MpE} {col : List Nat → Nat} (h2 : ∀ H, mget H M = none → K H = []) (h3 : ∀ H v, mget H M = some v → Ls s (col H) v (K H) C (lsc M col) ∧ ∀ H' v', mget H' M = some v' → col H' = col H → H' = H) (γ : Nat) :
  ∃ q cl g, ∃ P : List (Value × List Nat), (mget H M).getD (.slice none 0 0) = .slice q P.length cl ∧ Gw s q P.length cl 1 (P.map Prod.fst) g ∧ (0 < P.length ∨ (q = none ∧ P.length = 0 ∧ cl = 0)) ∧ K H = P.map Prod.snd ∧ (∀ x ∈ P, ∃ qa ca γa, x.1 = .slice qa x.2.length ca ∧ Sl s qa (x.2.map nB) γa ∧ C γa ∧ ¬ lsc M col γa) ∧ ((g = γ ∧ P = [] ∧ mget H M = none) ∨ (0 < P.length ∧ g = col H ∧ C g ∧ ∃ v, mget H M = some v)) := by
 cases hg : mget H M with
 | none => exact ⟨none, 0, γ, [], rfl, Gw.nil, .inr ⟨rfl, rfl, rfl⟩, h2 H hg, (fun x hx => by cases hx), .inl ⟨rfl, rfl, rfl⟩⟩
 | some v =>
  obtain ⟨h1, q, cl, P, rfl, h4, h5, h6, h7⟩ := (h3 H v hg).1
  exact ⟨q, cl, col H, P, rfl, h5, .inl h4, h6, h7, .inr ⟨h4, rfl, h1, _, rfl⟩⟩
set_option maxHeartbeats 1000000 in
theorem nadd_ok {b o k rr m : Nat} {l : List Value} {K : List Nat → List (List Nat)} {C : Nat → Prop} {H : List Nat} (w0 : Wf s) (hb : Rw s b l γ) (hm : l[o]? = some (.map (some rr))) (hn : l[o + 1]? = some (nI k)) (hN : Nt s rr K C m) (hr : rr ≠ γ) (hCg : ¬ C γ) (hCr : ¬ C rr) (hmm : m < 2 ^ 40) (hH : H.length = 32) (hA : ∀ x ∈ A, x < 256) (hA0 : A ≠ []) (hAl : A.length < 2 ^ 40) (hk : k < 2 ^ 60) (hq : At s q (A.map nB)) :
  Cl B (.call 39 [.pointer (some ⟨b, o, none⟩), hsh H, .slice q A.length c]) s fun _ s' => (A ∈ K H ∧ Kn s s') ∨ (A ∉ K H ∧ Rw s' b (l.set (o + 1) (nI (k + 1))) γ ∧ Nt s' rr (kput K H A) (fun c => C c ∨ (s.nx ≤ c ∧ c < s'.nx)) (m + 1) ∧ Kp (fun c => c = γ ∨ c = rr ∨ C c) s s') := by
 have hM0 := hN
 obtain ⟨⟨M, col, h1, h2, h3⟩, hris, hbyt, hlen, hold⟩ := hN
 obtain ⟨ql, cl, g, P, p1, p2, p3, p4, p5, p6⟩ := nt_list (H := H) h2 h3 γ
 have hgl := hb.lt w0
 have hrl := h1.lt w0
 have gnx : g < s.nx := by
  rcases p6 with ⟨e, _⟩ | ⟨_, _, e, _⟩
  ·rw [e]; exact hgl.2
  ·exact hold g e
 have hsr : ∀ {s' : St}, Kn s s' → ∀ {q : Option Addr} {d : Nat}, At s' q (A.map nB) → Cl B (.call 95 [.slice ql P.length cl, .slice q A.length d, bcf]) s' fun v s'' => v = .tuple ⟨[nI (pos A (K H)), .bool (decide (A ∈ K H))]⟩ ∧ s'' = s' := fun {s'} kk {q} {d} hq' => by
  have hR := hris H
  have hB := hbyt H
  have hL := hlen H
  rw [p4] at hR hB hL ⊢
  rw [List.length_map] at hL
  refine search_ok ⟨(p2.sl.kp w0 kk id).at, fun x hx => ?_⟩ hq' (by omega) hR (fun x hx y hy => hB x.2 (List.mem_map_of_mem hx) y hy) hA
  obtain ⟨qa, ca, γa, a1, a2, _⟩ := p5 x hx
  exact ⟨qa, ca, a1, (a2.kp w0 kk id).at⟩
 refine Cl.enter Tryz.f39 fn39 rfl rfl rfl ?_
 have gd : good (some ⟨b, o, none⟩) := good_b
 refine run1 ?_
 refine mkO (cs := H.map nB) fun s1 r1 n1 k1 => ?_
 have w1 : Wf s1 := k1.wf w0
 have b1 := hb.kp w0 k1 id
 have hM1 := h1.kp w0 k1 id
 have q1 := hq.kn w0 k1
 have lh1 := r1.all (n := 32) (by rw [List.length_map, hH]) (by decide)
 refine run1 ?_
 refine Wo.call rfl (Xc.call ok60 rfl) rfl ((place_ok (ql := ql) (m := P.length) (cl := cl) (i := pos A (K H)) (f := decide (A ∈ K H)) w1 b1 hm hM1 hH p1 (fun s' kk => hsr (k1.call kk) (q1.kn w1 kk))).mono ?_)
 rintro v s2 ⟨rfl, k2⟩
 have w2 : Wf s2 := k2.wf w1
 by_cases hin : A ∈ K H
 ·rw [decide_eq_true hin]
  refine run1 ?_
  exact Lv.ret rfl (.inl ⟨hin, k1.call k2⟩)
 rw [decide_eq_false hin]
 refine run1 ?_
 refine W.dr [(12, .none, 0), (13, .acts, 4096), (5, .none, 0), (6, .none, 32), (7, .none, 96), (8, .reads, 224), (9, .reads, 0), (10, .reads, 992), (11, .none, 0), (14, .makes, 12288), (15, .acts, 32736), (0, .none, 0), (1, .none, 1), (2, .none, 3), (3, .reads, 7), (4, .reads, 0), (16, .acts, 65535)] (by kernel_rfl) rfl (run1 ?_)
 refine Wd.call rfl (Xc.call ok25 rfl) rfl ((clone_ok w2 (q1.kn w1 k2) (by omega)).mono ?_)
 rintro v s3 ⟨qa, ca, γa, rfl, ga, k3, la⟩
 refine ⟨k3.le, ?_⟩
 have w3 : Wf s3 := k3.wf w2
 have k13 : Kn s1 s3 := k2.call k3
 have lm2 : ldq s2 (qadd (some ⟨b, o, none⟩) 0) = some (.map (some rr)) := At.one (b1.kp w1 k2 id) hm (by omega)
 have lm3 : ldq s3 (qadd (some ⟨b, o, none⟩) 0) = some (.map (some rr)) := At.one (b1.kp w1 k13 id) hm (by omega)
 have lh2 := (r1.kp w1 k2 id).all (n := 32) (by rw [List.length_map, hH]) (by decide)
 have lh3 := (r1.kp w1 k13 id).all (n := 32) (by rw [List.length_map, hH]) (by decide)
 have hM2 := hM1.kp w1 k2 id
 have hM3 := hM1.kp w1 k13 id
 refine run1 ?_
 refine Wd.val rfl (Xv.nilC rfl) rfl (Nat.le_refl _) (run1 ?_)
 refine Wd.read rfl (Xv.ld rfl rfl rfl lm3) rfl eqV_mp ⟨Xv.ld rfl rfl rfl lm3, ⟨Xv.ld rfl rfl rfl lm2, trivial⟩⟩ ?_
 refine Wd.read rfl (Xv.ldN rfl rfl rfl lh3) rfl eqV_h ⟨Xv.ldN rfl rfl rfl lh3, ⟨Xv.ldN rfl rfl rfl lh2, trivial⟩⟩ ?_
 have lk : ∀ {X : Fx} {env : Env} {x y : Operand} {t : St}, Mp t rr M → X.B = B → ev env x = some (.map (some rr)) → ev env y = some (hsh H) → Xv X (.lookup 74 x y false) env t (.slice ql P.length cl) t := fun {X env x y t} hM hB hx hy => by
  have := Xv.look (X := X) (ok := false) (t := 74) (key := 32) (elt := 79) (e := 5) (z := .slice none 0 0) (by rw [hB]; rfl) (by show HT X.B.P _ _; rw [hB]; exact HH) (by show zeroOf X.B.P _ = _; rw [hB]; exact zsl) rfl hx hy hH hM
  rw [← p1]; exact this
 refine Wd.read rfl (lk hM3 rfl rfl rfl) rfl eqV_slice ⟨lk hM3 rfl rfl rfl, ⟨lk hM2 rfl rfl rfl, trivial⟩⟩ (run1 ?_)
 refine mk_gen0 (M := fun s' => Wd _ _ _ _ _ _ s' _) fun s4 q4 q4' n4 k4 => ?_
 have w4 : Wf s4 := k4.wf w3
 have k04 : Kn s s4 := k1.call (k13.call k4)
 have e1 := k1.le
 have e2 := k2.le
 have e3 := k3.le
 have e4 := k4.le
 have hpl : pos A (K H) ≤ P.length := by have := pos_le (D := A) (K := K H); rw [p4, List.length_map] at this; rw [p4]; exact this
 have hL := hlen H
 rw [p4, List.length_map] at hL
 have hone : ∀ x ∈ P.map Prod.fst, one x = true := fun x hx => by
  obtain ⟨y, hy, rfl⟩ := List.mem_map.1 hx
  obtain ⟨qa, ca, γa, a1, _⟩ := p5 y hy
  rw [a1]; rfl
 refine Wd.call rfl (Xc.call ok61 rfl) rfl ((insA_ok w4 (p2.kp w0 k04 id) p3 hpl (by omega) hone rfl q4' (by omega)).mono ?_)
 rintro v s5 ⟨qn, cn, γn, rfl, gn, hγn, k5⟩
 refine ⟨k5.le, ?_⟩
 have w5 : Wf s5 := k5.wf w4
 have k05 : Kp (fun c => 0 < P.length ∧ c = g) s s5 := (k04.w).trans k5
 have hCP : 0 < P.length → C g ∧ g = col H ∧ ∃ v, mget H M = some v := fun h => by
  rcases p6 with ⟨_, e, _⟩ | ⟨_, e1, e2, e3⟩
  ·rw [e] at h; exact absurd h (Nat.lt_irrefl _)
  ·exact ⟨e2, e1, e3⟩
 have nDr : ¬ (0 < P.length ∧ rr = g) := fun e => hCr (e.2 ▸ (hCP e.1).1)
 have nDg : ¬ (0 < P.length ∧ γ = g) := fun e => hCg (e.2 ▸ (hCP e.1).1)
 have hM5 : Mp s5 rr M := h1.kp w0 k05 nDr
 have b5 : Rw s5 b l γ := hb.kp w0 k05 nDg
 have z5 : Rw s5 s.nx (H.map nB) s.nx := (((r1.kp w1 k13 id).kp w3 k4 id).kp w4 k5 (fun e => by have := e.2; omega))
 have lh5 := z5.all (n := 32) (by rw [List.length_map, hH]) (by decide)
 have lm5 : ldq s5 (qadd (some ⟨b, o, none⟩) 0) = some (.map (some rr)) := At.one b5 hm (by omega)
 refine run1 ?_
 refine Wd.val rfl (Xv.nilC rfl) rfl (Nat.le_refl _) (run1 ?_)
 refine Wd.read rfl (Xv.ld rfl rfl rfl lm5) rfl eqV_mp ⟨Xv.ld rfl rfl rfl lm5, ⟨Xv.ld rfl rfl rfl lm3, ⟨Xv.ld rfl rfl rfl lm2, trivial⟩⟩⟩ ?_
 refine Wd.read rfl (Xv.ldN rfl rfl rfl lh5) rfl eqV_h ⟨Xv.ldN rfl rfl rfl lh5, ⟨Xv.ldN rfl rfl rfl lh3, ⟨Xv.ldN rfl rfl rfl lh2, trivial⟩⟩⟩ ?_
 refine Wd.put (h := H) rfl rfl rfl HH rfl rfl rfl hH hM5 fun s6 m6 n6 k6 => ?_
 have w6 : Wf s6 := k6.wf w5
 have b6 : Rw s6 b l γ := b5.kp w5 k6 (Ne.symm hr)
 have ln6 : ldq s6 (qadd (some ⟨b, o, none⟩) 1) = some (nI k) := At.one b6 hn rfl
 have ho : o + 1 < l.length := (List.getElem?_eq_some_iff.1 hn).1
 refine run1 ?_
 refine Wo.val rfl (Xv.nilC rfl) rfl (run1 ?_)
 refine Wo.val rfl (Xv.nilC rfl) rfl (run1 ?_)
 refine Wo.st rfl rfl rfl rfl rfl rfl rfl (by intro v hv; rw [List.mem_singleton.1 hv]; rfl) b6 (by show o + 1 + 1 ≤ _; omega) fun s7 r7 n7 k7 => ?_
 rw [lov_one ho] at r7
 refine run1 ?_
 have e5 := k5.le
 have e6 := k6.le
 have e7 := k7.le
 have w7 : Wf s7 := k7.wf w6
 have k57 : Kp (fun c => c = γ ∨ c = rr) s5 s7 := (k6.mono fun c h => .inr h).trans (k7.mono fun c h => .inl h)
 have k07 : Kp (fun c => (0 < P.length ∧ c = g) ∨ c = γ ∨ c = rr) s s7 := (k05.mono fun c h => .inl h).trans (k57.mono fun c h => .inr h)
 have ga3 : γa < s3.nx := ga.sl.lt w3 (fun e => hA0 (List.map_eq_nil_iff.1 e))
 have gnn : γn < s5.nx := gn.sl.lt w5 (fun e => by have := congrArg List.length e; simp at this)
 have gn7 : Gw s7 qn (P.length + 1) cn 1 ((P.map Prod.fst).take (pos A (K H)) ++ .slice qa A.length ca :: (P.map Prod.fst).drop (pos A (K H))) γn := gn.kp w5 k57 (by
  rcases hγn with ⟨h, rfl⟩ | h
  ·rintro (e | e)
   ·exact nDg ⟨h, e.symm⟩
   ·exact nDr ⟨h, e.symm⟩
  ·have := hgl.2; omega)
 have ga7 : Sl s7 qa (A.map nB) γa := ((ga.sl.kp w3 k4 id).kp w4 k5 (fun e => by have := e.2; omega)).kp w5 k57 (by have := hgl.2; omega)
 have st7 : ∀ {q : Option Addr} {cs : List Value} {δ : Nat}, Sl s q cs δ → C δ → ¬ lsc M col δ → Sl s7 q cs δ := fun {q cs δ} h hc hg => h.kp w0 k07 (by
  rintro (⟨e, e'⟩ | e | e)
  ·obtain ⟨_, h2, v, h3⟩ := hCP e
   exact hg ⟨H, v, h3, e'.trans h2⟩
  ·exact hCg (e ▸ hc)
  ·exact hCr (e ▸ hc))
 have hcH : ∀ X v, mget X (mput H (.slice qn (P.length + 1) cn) M) = some v → (X = H ∧ v = .slice qn (P.length + 1) cn) ∨ (X ≠ H ∧ mget X M = some v) := fun X v h => by
  rw [mget_put] at h
  split at h
  ·rename_i e; cases h; exact .inl ⟨e, rfl⟩
  ·rename_i e; exact .inr ⟨e, h⟩
 have hcl : ∀ X v, mget X M = some v → C (col X) ∧ col X < s.nx := fun X v h => ⟨(h3 X v h).1.1, hold _ (h3 X v h).1.1⟩
 refine Lv.nrm rfl (.inr ⟨hin, r7, ⟨⟨mput H (.slice qn (P.length + 1) cn) M, fun X => if X = H then γn else col X, m6.kp w6 k7 hr, fun X hX => ?_, fun X v hX => ?_⟩, fun X => ?_, fun X x hx => ?_, fun X => ?_, fun c hc => ?_⟩, ?_⟩)
 ·rw [mget_put] at hX
  split at hX
  ·cases hX
  ·rename_i e
   show (if X = H then _ else K X) = []
   rw [if_neg e]; exact h2 X hX
 ·have G' : ∀ c, C c → lsc (mput H (.slice qn (P.length + 1) cn) M) (fun X => if X = H then γn else col X) c → lsc M col c := fun c hc ⟨Y, u, hY, e⟩ => by
   rcases hcH Y u hY with ⟨rfl, _⟩ | ⟨hne, hY'⟩
   ·have e : c = γn := by rw [e]; exact if_pos rfl
    rcases hγn with ⟨h, e'⟩ | h
    ·obtain ⟨_, h2, v, h3⟩ := hCP h
     exact ⟨Y, v, h3, by rw [e, e', h2]⟩
    ·have := hold c hc; omega
   ·exact ⟨Y, u, hY', by rw [e]; exact if_neg hne⟩
  rcases hcH X v hX with ⟨rfl, rfl⟩ | ⟨hne, hX'⟩
  ·refine ⟨⟨?_, qn, cn, P.take (pos A (K X)) ++ (.slice qa A.length ca, A) :: P.drop (pos A (K X)), ?_, by rw [List.length_append, List.length_cons]; omega, ?_, ?_, fun x hx => ?_⟩, fun Y u hY e => ?_⟩
   ·have eg : (if X = X then γn else col X) = γn := if_pos rfl
    show (fun c => C c ∨ (s.nx ≤ c ∧ c < s7.nx)) (if X = X then γn else col X)
    rw [eg]
    rcases hγn with ⟨h, e'⟩ | h
    ·exact .inl (e' ▸ (hCP h).1)
    ·exact .inr ⟨by omega, by omega⟩
   ·rw [show (P.take (pos A (K X)) ++ (Value.slice qa A.length ca, A) :: P.drop (pos A (K X))).length = P.length + 1 by simp; omega]
   ·show Gw s7 qn _ cn 1 _ (if X = X then γn else col X)
    rw [if_pos rfl, show (P.take (pos A (K X)) ++ (Value.slice qa A.length ca, A) :: P.drop (pos A (K X))).length = P.length + 1 by simp; omega, List.map_append, List.map_cons, List.map_take, List.map_drop]
    exact gn7
   ·show (if X = X then _ else K X) = _
    rw [if_pos rfl, List.map_append, List.map_cons, List.map_take, List.map_drop, ← p4]
   ·have hx' : x = (.slice qa A.length ca, A) ∨ x ∈ P := by
     rcases List.mem_append.1 hx with hx | hx
     ·exact .inr (List.mem_of_mem_take hx)
     ·rcases List.mem_cons.1 hx with hx | hx
      ·exact .inl hx
      ·exact .inr (List.mem_of_mem_drop hx)
    rcases hx' with rfl | hx
    ·refine ⟨qa, ca, γa, rfl, ga7, .inr ⟨by omega, by omega⟩, fun ⟨Y, u, hY, e⟩ => ?_⟩
     rcases hcH Y u hY with ⟨rfl, _⟩ | ⟨hne, hY'⟩
     ·have e : γa = γn := by rw [e]; exact if_pos rfl
      rcases hγn with ⟨h, e'⟩ | h
      ·omega
      ·omega
     ·have e : γa = col Y := by rw [e]; exact if_neg hne
      have := (hcl Y u hY').2
      omega
    ·obtain ⟨qb, cb, γb, a1, a2, a3, a4⟩ := p5 x hx
     exact ⟨qb, cb, γb, a1, st7 a2 a3 a4, .inl a3, fun e => a4 (G' γb a3 e)⟩
   ·rcases hcH Y u hY with ⟨rfl, _⟩ | ⟨hne, hY'⟩
    ·rfl
    ·exfalso
     have e : col Y = γn := by
      have e : (if Y = X then γn else col Y) = (if X = X then γn else col X) := e
      rw [if_neg hne, if_pos rfl] at e; exact e
     rcases hγn with ⟨h, e'⟩ | h
     ·obtain ⟨_, h2, v, h3'⟩ := hCP h
      exact hne ((h3 X v h3').2 Y u hY' (by rw [e, e', h2]))
     ·have := (hcl Y u hY').2; omega
  ·have L := (h3 X v hX').1
   have hc := hcl X v hX'
   refine ⟨?_, fun Y u hY e => ?_⟩
   ·show Ls s7 (if X = H then γn else col X) v (if X = H then _ else K X) _ _
    rw [if_neg hne, if_neg hne]
    refine (L.kp w0 k07 ?_ fun c hcc hg => ?_).mono (fun c h => .inl h) G'
    ·rintro (⟨e, e'⟩ | e | e)
     ·obtain ⟨_, h2, v', h3'⟩ := hCP e
      exact hne ((h3 H v' h3').2 X v hX' (by rw [e', h2]))
     ·exact hCg (e ▸ hc.1)
     ·exact hCr (e ▸ hc.1)
    ·rintro (⟨e, e'⟩ | e | e)
     ·obtain ⟨_, h2, v', h3'⟩ := hCP e
      exact hg ⟨H, v', h3', by rw [e', h2]⟩
     ·exact hCg (e ▸ hcc)
     ·exact hCr (e ▸ hcc)
   ·have e : (if Y = H then γn else col Y) = (if X = H then γn else col X) := e
    rw [if_neg hne] at e
    rcases hcH Y u hY with ⟨rfl, _⟩ | ⟨hne', hY'⟩
    ·exfalso
     rw [if_pos rfl] at e
     rcases hγn with ⟨h, e'⟩ | h
     ·obtain ⟨_, h2, v', h3'⟩ := hCP h
      exact hne ((h3 Y v' h3').2 X v hX' (by rw [← e, e', h2]))
     ·omega
    ·rw [if_neg hne'] at e
     exact (h3 X v hX').2 Y u hY' e
 ·show Ris (if X = H then _ else K X)
  split
  ·exact pos_ris (hris H) hin
  ·exact hris X
 ·rcases kput_mem.1 hx with ⟨_, rfl⟩ | hx
  ·exact hA
  ·exact hbyt X x hx
 ·show (if X = H then _ else K X).length ≤ m + 1
  have := hlen H
  have := hlen X
  split
  ·rw [List.length_append, List.length_cons, List.length_take, List.length_drop]; have := pos_le (D := A) (K := K H); omega
  ·omega
 ·rcases hc with hc | hc
  ·have := hold c hc; omega
  ·exact hc.2
 ·exact k07.mono fun c h => by
   rcases h with h | h | h
   ·exact .inr (.inr (h.2 ▸ (hCP h.1).1))
   ·exact .inl h
   ·exact .inr (.inl h)
end Go.Proofs.YtglilbadldocoaaGreatDoor
