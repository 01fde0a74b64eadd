import Derived.Test.YtglilbadldocoaaGreatDoorBnzz
import Derived.Test.YtglilbadldocoaaGreatDoorAczz
import Derived.Test.YtglilbadldocoaaGreatDoorJszz
namespace Go.Sy
open Go Go.Ev
theorem Nt.lt {s : St} {r : Nat} {K : List Nat → List (List Nat)} {C : Nat → Prop} {m : Nat} (h : Nt s r K C m) (w : Wf s) : r < s.nx := let ⟨_, _, h, _⟩ := h.ex; h.lt w
theorem Nt.mono {s : St} {r : Nat} {K : List Nat → List (List Nat)} {C C' : Nat → Prop} {m m' : Nat} (h : Nt s r K C m) (hC : ∀ c, C c → C' c) (ho : ∀ c, C' c → c < s.nx) (hm : m ≤ m' := by exact Nat.le_refl _) : Nt s r K C' m' := by
 obtain ⟨⟨M, col, h1, h2, h3⟩, a, b, c, d⟩ := h
 exact ⟨⟨M, col, h1, h2, fun H v hv => ⟨(h3 H v hv).1.mono hC (fun _ _ h => h), (h3 H v hv).2⟩⟩, a, b, fun H => Nat.le_trans (c H) hm, ho⟩
def kadd (K : List Nat → List (List Nat)) (H A : List Nat) : List Nat → List (List Nat) := if A ∈ K H then K else kput K H A
theorem kadd_mem {K : List Nat → List (List Nat)} {H A X D : List Nat} : D ∈ kadd K H A X ↔ (X = H ∧ D = A) ∨ D ∈ K X := by
 unfold kadd
 split
 ·rename_i h
  exact ⟨.inr, fun e => e.elim (fun e => by rw [e.1, e.2]; exact h) id⟩
 ·exact kput_mem
theorem set_same {l : List Value} {i : Nat} {v : Value} (h : l[i]? = some v) : l.set i v = l := by
 apply List.ext_getElem?
 intro j
 by_cases e : i = j
 ·subst e
  rw [List.getElem?_set_self (List.getElem?_eq_some_iff.1 h).1, h]
 ·rw [List.getElem?_set_ne e]
end Go.Sy
namespace Go.Proofs.YtglilbadldocoaaGreatDoor
open Go Go.Ev Go.Sy
set_option maxRecDepth 100000
variable {s : St} {p γ δ n c : Nat} {q : Option Addr} {S A D O R : List Nat} {nb cb r1 n1 r2 n2 r3 n3 : Nat}
theorem nadd2_ok {b o k rr m : Nat} {l : List Value} {K : List Nat → List (List Nat)} {C : Nat → Prop} {H : List Nat} (w0 : Wf s) (hb : Rw s b l γ) (hm : l[o]? = some (.map (some rr))) (hn : l[o + 1]? = some (nI k)) (hN : Nt s rr K C m) (hr : rr ≠ γ) (hCg : ¬ C γ) (hCr : ¬ C rr) (hmm : m < 2 ^ 40) (hH : H.length = 32) (hA : ∀ x ∈ A, x < 256) (hA0 : A ≠ []) (hAl : A.length < 2 ^ 40) (hk : k < 2 ^ 60) (hq : At s q (A.map nB)) :
  Cl B (.call 39 [.pointer (some ⟨b, o, none⟩), hsh H, .slice q A.length c]) s fun _ s' => ∃ k', k' ≤ k + 1 ∧ Rw s' b (l.set (o + 1) (nI k')) γ ∧ Nt s' rr (kadd K H A) (fun c => C c ∨ (s.nx ≤ c ∧ c < s'.nx)) (m + 1) ∧ Kp (fun c => c = γ ∨ c = rr ∨ C c) s s' := by
 refine (nadd_ok w0 hb hm hn hN hr hCg hCr hmm hH hA hA0 hAl hk hq).mono ?_
 rintro v s' (⟨h1, h2⟩ | ⟨h1, h2, h3, h4⟩)
 ·refine ⟨k, Nat.le_succ _, by rw [set_same hn]; exact hb.kp w0 h2 id, ?_, h2.w⟩
  unfold kadd
  rw [if_pos h1]
  exact (hN.kp w0 h2 id (fun _ _ h => h)).mono (fun c h => .inl h) (fun c h => h.elim (fun h => Nat.lt_of_lt_of_le (hN.old c h) h2.le) (fun h => h.2)) (Nat.le_succ _)
 ·refine ⟨k + 1, Nat.le_refl _, h2, ?_, h4⟩
  unfold kadd
  rw [if_neg h1]
  exact h3
set_option maxHeartbeats 1000000 in
theorem ncode_ok {b m : Nat} {K : List Nat → List (List Nat)} {C : Nat → Prop} {H : List Nat} (w0 : Wf s) (hb : Rw s b (bkT nb cb S (bl 0 r1 n1 r2 n2 r3 n3)) γ) (hNt : Nt s r2 K C m) (hr : r2 ≠ γ) (hCg : ¬ C γ) (hCr : ¬ C r2) (hmm : m < 2 ^ 40) (hS : S.length = 32) (hSb : ∀ x ∈ S, x < 256) (hq : At s q (A.map nB)) (hA : ∀ x ∈ A, x < 256) (hA0 : A ≠ []) (hc : Cap A.length c 1) (hl : A.length < 2 ^ 40) (hcb : cb ≤ 256) (hH : H = cutOf (hmc S A) cb) (hn2 : n2 < 2 ^ 60) (hTk : ∀ s', Kp (fun c => c = γ) s s' → TabAt s') (hqg : ∀ δ, Sl s q (A.map nB) δ → δ ≠ γ) :
  Cl B (.call 18 [.pointer (some ⟨b, 0, none⟩), .slice q A.length c]) s fun v s' => v = hsh H ∧ ∃ n2', n2' ≤ n2 + 1 ∧ Rw s' b (bkT nb cb S (bl 0 r1 n1 r2 n2' r3 n3)) γ ∧ Nt s' r2 (kadd K H A) (fun c => C c ∨ (s.nx ≤ c ∧ c < s'.nx)) (m + 1) ∧ Kp (fun c => c = γ ∨ c = r2 ∨ C c) s s' := by
 have hHl : H.length = 32 := by rw [hH]; exact ctN_length.trans hmc_length
 refine Cl.enter Tryz.f18 fn18 rfl rfl rfl ?_
 have gd : good (some ⟨b, 0, none⟩) := good_b
 refine run1 ?_
 refine mkO (cs := (List.replicate 32 0).map nB) fun s1 z1 m1 k1 => ?_
 have w1 : Wf s1 := k1.wf w0
 have b1 := hb.kp w0 k1 id
 have hbl := hb.lt w0
 have hrl := hNt.lt w0
 refine Wo.val rfl (Xv.pEq rfl rfl rfl) rfl (run1 ?_)
 refine Wo.val rfl (Xv.nilC rfl) rfl (run1 ?_)
 refine Wo.call rfl (Xc.call ok23 rfl) rfl ((lock_ok (o := 34) w1 b1 (by rw [show 34 = 34 + 0 from rfl, bkT_at hS]; rfl)).mono ?_)
 rintro v s2 ⟨b2, m2, k2⟩
 rw [show lov (bkT nb cb S (bl 0 r1 n1 r2 n2 r3 n3)) 34 [Value.int .i32 1] = bkT nb cb S (bl 1 r1 n1 r2 n2 r3 n3) from bkT_set (i := 0) hS (show 0 < 8 by decide)] at b2
 have w2 : Wf s2 := k2.wf w1
 refine run1 ?_
 refine Wo.val rfl (Xv.nilC rfl) rfl (run1 ?_)
 refine Wo.dfr rfl rfl rfl ?_
 refine run1 ?_
 have k02 : Kp (fun c => c = γ) s s2 := (k1.w).trans k2
 have z2 := z1.kp w1 k2 (by omega)
 obtain ⟨δ, d1, d2⟩ := hq.sl
 have dlt := d2 w0
 have hδ := hqg δ d1
 have q2 : At s2 q (A.map nB) := (d1.kp w0 k02 hδ).at
 refine Wo.call rfl (Xc.call ok38 rfl) rfl ((codeOf_ok w2 (hTk s2 k02) b2 hS hSb q2 hA hc (by omega) hcb).mono ?_)
 rintro v s3 ⟨rfl, k3⟩
 rw [← hH]
 have w3 : Wf s3 := k3.wf w2
 refine run1 ?_
 refine mkO (cs := (List.replicate 32 0).map nB) fun s4 z4 m4 k4 => ?_
 have w4 : Wf s4 := k4.wf w3
 refine Wo.st rfl rfl rfl rfl rfl rfl (by rw [List.length_map, hHl]) one_nB z4 (by rw [List.length_map, List.length_replicate]; decide) fun s5 z5 m5 k5 => ?_
 rw [lov_all (by rw [List.length_map, List.length_map, hHl, List.length_replicate])] at z5
 have k25 : Kn s2 s5 := k3.call (k4.app k5 (Nat.le_refl _))
 have w5 : Wf s5 := k25.wf w2
 have k05 : Kp (fun c => c = γ) s s5 := k02.trans (k25.w)
 have l5 := z5.all (n := 32) (by rw [List.length_map, hHl]) (by decide)
 have b5 := b2.kp w2 k25 id
 have M5 : Nt s5 r2 K C m := hNt.kp w0 k05 hr (fun c hc e => hCg (e ▸ hc))
 refine run1 ?_
 refine W.dr [(0, .none, 0), (1, .none, 1), (2, .none, 3), (3, .reads, 0), (4, .none, 0), (5, .acts, 31)] (by kernel_rfl) rfl (run1 ?_)
 refine Wd.val rfl (Xv.nilC rfl) rfl (Nat.le_refl _) (run1 ?_)
 refine Wd.read rfl (Xv.ldN rfl rfl rfl l5) rfl eqV_h ⟨Xv.ldN rfl rfl rfl l5, trivial⟩ (run1 ?_)
 refine Wd.call rfl (Xc.call ok39 rfl) rfl ((nadd2_ok (o := 38) (k := n2) w5 b5 (by rw [show 38 = 34 + 4 from rfl, bkT_at hS]; rfl) (by rw [show 38 + 1 = 34 + 5 from rfl, bkT_at hS]; rfl) M5 hr hCg hCr hmm hHl hA hA0 hl hn2 (d1.kp w0 k05 hδ).at).mono ?_)
 rintro v s6 ⟨n2', hn2', b6, M6, k6⟩
 refine ⟨k6.le, ?_⟩
 have b6 : Rw s6 b (bkT nb cb S (bl 1 r1 n1 r2 n2' r3 n3)) γ := by
  have e : (bkT nb cb S (bl 1 r1 n1 r2 n2 r3 n3)).set 39 (nI n2') = bkT nb cb S (bl 1 r1 n1 r2 n2' r3 n3) := by
   rw [← lov_one (by rw [bkT_len hS]; exact (show 39 < 34 + 8 by decide))]
   exact bkT_set (i := 5) hS (show 5 < 8 by decide)
  rw [← e]; exact b6
 have h25 := k25.le
 have h02 := k02.le
 have h2 := k2.le
 have h1 := k1.le
 have w6 : Wf s6 := k6.wf w5
 have z6 : Rw s6 s3.nx (H.map nB) s3.nx := z5.kp w5 k6 (fun e => by have := k3.le; rcases e with e | e | e <;> first | omega | (have := hNt.old _ e; omega))
 have l6 := z6.all (n := 32) (by rw [List.length_map, hHl]) (by decide)
 have z26 : Rw s6 s.nx ((List.replicate 32 0).map nB) s.nx := (z2.kp w2 k25 id).kp w5 k6 (fun e => by rcases e with e | e | e <;> first | omega | (have := hNt.old _ e; omega))
 refine run1 ?_
 refine Wo.st rfl rfl rfl rfl rfl rfl (by rw [List.length_map, hHl]) one_nB z26 (by rw [List.length_map, List.length_replicate]; decide) fun s7 z7 m7 k7 => ?_
 rw [lov_all (by rw [List.length_map, List.length_map, hHl, List.length_replicate])] at z7
 have w7 : Wf s7 := k7.wf w6
 refine run1 ?_
 refine Lv.retD (show 1 ≤ 100 by decide) ⟨by kernel_rfl, Cl.toLate rfl ((unlock_ok (o := 34) (b6.kp w6 k7 (by omega)) (by rw [show 34 = 34 + 0 from rfl, bkT_at hS]; rfl)).mono ?_)⟩
 rintro v s8 ⟨b8, m8, k8⟩
 rw [show lov (bkT nb cb S (bl 1 r1 n1 r2 n2' r3 n3)) 34 [Value.int .i32 0] = bkT nb cb S (bl 0 r1 n1 r2 n2' r3 n3) from bkT_set (i := 0) hS (show 0 < 8 by decide)] at b8
 have z8 := z7.kp w7 k8 (by omega)
 have hcl := cell_at (B := B) (t := 32) (n := 32) (k := .ar 32 5) rfl rfl z8 (by rw [List.length_map, hHl]) rfl
 have w8 : Wf s8 := k8.wf w7
 have e6 := k6.le
 have e7 := k7.le
 have e8 := k8.le
 have M8 := (M6.kp w6 k7 (fun e => by omega) (fun c hc e => by rcases hc with h | h <;> first | omega | (have := hNt.old _ h; omega))).kp w7 k8 hr (fun c hc e => hc.elim (fun h => hCg (e ▸ h)) (fun h => by omega))
 refine ⟨[hsh H], ?_, rfl, n2', hn2', b8, M8.mono (fun c h => h.imp id fun h => ⟨by omega, by omega⟩) (fun c h => h.elim (fun h => by have := hNt.old c h; omega) (fun h => h.2)), ?_⟩
 rotate_left
 ·have k08 : Kp (fun c => (c = γ ∨ c = r2 ∨ C c) ∨ s.nx ≤ c) s s8 := ((((k05.mono fun c h => .inl (.inl h)).trans (k6.mono fun c h => .inl h)).trans (k7.mono fun c h => .inr (by omega))).trans (k8.mono fun c h => .inl (.inl h)))
  exact ⟨k08.le, k08.wf, fun w b o hb hc => k08.kp w b o hb fun h => by
   rcases h with h | h
   ·exact hc h
   ·exact absurd (w.lt b o hb).2 (by omega)⟩
 show (match cell1 B.P (.pointer (some ⟨s.nx, 0, none⟩)) 32 s8, some [] with | some v, some vs => some (v :: vs) | _, _ => none) = _
 rw [hcl]; rfl
set_option maxHeartbeats 1000000 in
theorem nacc_ok {b m : Nat} {K : List Nat → List (List Nat)} {C : Nat → Prop} {G : List Nat} (w : Wf s) (hb : Rw s b (bkT nb cb S (bl 0 r1 n1 r2 n2 r3 n3)) γ) (hNt : Nt s r2 K C m) (hr : r2 ≠ γ) (hCg : ¬ C γ) (hmm : m < 2 ^ 60) (hS : S.length = 32) (hSb : ∀ x ∈ S, x < 256) (hq : At s q (D.map nB)) (hD : ∀ x ∈ D, x < 256) (hc : Cap D.length c 1) (hl : D.length < 2 ^ 40) (hcb : cb ≤ 256) (hG : G = cutOf (hmc S D) cb) (hin : D ∈ K G) (hTk : ∀ s', Kp (fun c => c = γ) s s' → TabAt s') (hqg : ∀ δ, Sl s q (D.map nB) δ → δ ≠ γ) :
  Cl B (.call 44 [.pointer (some ⟨b, 0, none⟩), .slice q D.length c, hsh G]) s fun v s' => v = .bool true ∧ Rw s' b (bkT nb cb S (bl 0 r1 n1 r2 n2 r3 n3)) γ ∧ Kp (fun c => c = γ) s s' := by
 have hGl : G.length = 32 := by rw [hG]; exact ctN_length.trans hmc_length
 have hGb : ∀ x ∈ G, x < 256 := by rw [hG]; exact ctN_byte sumN_byte
 have hbl := hb.lt w
 refine Cl.enter Tryz.f44 fn44 rfl rfl rfl ?_
 have gd : good (some ⟨b, 0, none⟩) := good_b
 refine run1 ?_
 refine mkO (cs := G.map nB) fun s1 z1 m1 k1 => ?_
 have w1 : Wf s1 := k1.wf w
 have b1 := hb.kp w k1 id
 refine Wo.val rfl (Xv.pEq rfl rfl rfl) rfl (run1 ?_)
 refine Wo.val rfl (Xv.nilC rfl) rfl (run1 ?_)
 refine Wo.call rfl (Xc.call ok23 rfl) rfl ((lock_ok (o := 34) w1 b1 (by rw [show 34 = 34 + 0 from rfl, bkT_at hS]; rfl)).mono ?_)
 rintro v s2 ⟨b2, m2, k2⟩
 rw [show lov (bkT nb cb S (bl 0 r1 n1 r2 n2 r3 n3)) 34 [Value.int .i32 1] = bkT nb cb S (bl 1 r1 n1 r2 n2 r3 n3) from bkT_set (i := 0) hS (show 0 < 8 by decide)] at b2
 have w2 : Wf s2 := k2.wf w1
 refine run1 ?_
 refine Wo.val rfl (Xv.nilC rfl) rfl (run1 ?_)
 refine Wo.dfr rfl rfl rfl ?_
 refine run1 ?_
 have k02 : Kp (fun c => c = γ) s s2 := (k1.w).trans k2
 have z2 := z1.kp w1 k2 (by omega)
 obtain ⟨δ, d1, d2⟩ := hq.sl
 have hδ := hqg δ d1
 have q2 : At s2 q (D.map nB) := (d1.kp w k02 hδ).at
 have l2 := z2.all (n := 32) (by rw [List.length_map, hGl]) (by decide)
 refine W.dr [(0, .none, 0), (1, .none, 0), (2, .acts, 3), (3, .reads, 0), (4, .acts, 15), (5, .none, 31)] (by kernel_rfl) rfl (run1 ?_)
 refine Wd.call rfl (Xc.call ok38 rfl) rfl ((codeOf_ok w2 (hTk s2 k02) b2 hS hSb q2 hD hc (by omega) hcb).mono ?_)
 rintro v s3 ⟨rfl, k3⟩
 rw [← hG]
 have w3 : Wf s3 := k3.wf w2
 have z3' := z2.kp w2 k3 id
 have l3 := z3'.all (n := 32) (by rw [List.length_map, hGl]) (by decide)
 refine ⟨k3.le, run1 ?_⟩
 refine Wd.read rfl (Xv.ldN rfl rfl rfl l3) rfl eqV_h ⟨Xv.ldN rfl rfl rfl l3, ⟨Xv.ldN rfl rfl rfl l2, trivial⟩⟩ (run1 ?_)
 refine Wd.call rfl (Xc.call ok67 rfl) rfl ((mequal_ok w3 hGl hGl hGb hGb).mono ?_)
 rintro v s4 ⟨rfl, k4⟩
 have w4 : Wf s4 := k4.wf w3
 have k24 : Kn s2 s4 := k3.call k4
 have b4 := b2.kp w2 k24 id
 refine ⟨k4.le, ?_⟩
 have k04 : Kp (fun c => c = γ) s s4 := k02.trans (k24.w)
 have hGG : G = G := rfl
 have z4 := z3'.kp w3 k4 id
 have l4 := z4.all (n := 32) (by rw [List.length_map, hGl]) (by decide)
 refine run1 ?_
 refine W.dr [(0, .none, 0), (1, .none, 1), (2, .none, 3), (3, .reads, 0), (4, .none, 0), (5, .acts, 31), (6, .none, 63)] (by kernel_rfl) rfl (run1 ?_)
 refine Wd.val rfl (Xv.nilC rfl) rfl (Nat.le_refl _) (run1 ?_)
 refine Wd.read rfl (Xv.ldN rfl rfl rfl l4) rfl eqV_h ⟨Xv.ldN rfl rfl rfl l4, trivial⟩ (run1 ?_)
 refine Wd.call rfl (Xc.call ok68 rfl) rfl ((nhas_ok (o := 38) w4 b4 (by rw [show 38 = 34 + 4 from rfl, bkT_at hS]; rfl) (hNt.kp w k04 hr (fun c hc e => hCg (e ▸ hc))) hmm hGl hD (d1.kp w k04 hδ).at).mono ?_)
 rintro v s5 ⟨rfl, k5⟩
 rw [decide_eq_true hin]
 have w5 := k5.wf w4
 refine ⟨k5.le, run1 ?_⟩
 have b5 := b4.kp w4 k5 id
 have k05 : Kp (fun c => c = γ) s s5 := k04.trans (k5.w)
 refine Lv.retD (show 1 ≤ 100 by decide) ⟨by kernel_rfl, Cl.toLate rfl ((unlock_ok (o := 34) b5 (by rw [show 34 = 34 + 0 from rfl, bkT_at hS]; rfl)).mono ?_)⟩
 rintro v s8 ⟨b8, m8, k8⟩
 rw [show lov (bkT nb cb S (bl 1 r1 n1 r2 n2 r3 n3)) 34 [Value.int .i32 0] = bkT nb cb S (bl 0 r1 n1 r2 n2 r3 n3) from bkT_set (i := 0) hS (show 0 < 8 by decide)] at b8
 exact ⟨[.bool true], rfl, rfl, b8, k05.trans k8⟩
open Go Go.Ev Go.Sy
set_option maxRecDepth 100000
variable {s s0 : St} {p γ δ n c m N d : Nat} {q : Option Addr} {A D F G C : List Nat} {L cs : List Value}
end Go.Proofs.YtglilbadldocoaaGreatDoor
namespace Go.Sy
open Go Go.Ev
section
variable {X : Fx} {env : Env} {s : St}
theorem Xv.slTo {t t0 n0 e t1 size : Nat} {z0 z : Option (List Value)} {ke : Sh} {x y' : Operand} {k' : IntKind} {b o n c h N : Nat} (ht : tk X.B.T t = some ⟨t0, n0, .sl e, z0⟩) (he : tk X.B.T e = some ⟨t1, size, ke, z⟩) (hx : ev env x = some (.slice (some ⟨b, o, none⟩) n c)) (hy' : ev env y' = some (.int k' (.ofNat h)))
  (hc : Rm c N size) (hh : h ≤ N) : ∃ c', Rm c' N size ∧ Xv X (.slice t x none (some y') none) env s (.slice (some ⟨b, o, none⟩) h c') s := by
 have mk : ∀ o m d : Nat, mkSl b o m d = some (.slice (some ⟨b, o, none⟩) m d) := fun o m d => by unfold mkSl; simp only [fN_eq]
 have key : ∃ c', slice2 size b o c 0 h = some (.slice (some ⟨b, o, none⟩) h c') ∧ Rm c' N size := by
  obtain ⟨r1, r2, r3⟩ := hc
  unfold slice2
  rw [Nat.ble_eq_true_of_le (Nat.zero_le _), Nat.ble_eq_true_of_le (Nat.le_trans hh r2)]
  cases hcs : capSure c with
  | false => exact ⟨c, mk _ _ _, r1, r2, r3⟩
  | true =>
   refine ⟨sure (capOf c - 0), ?_, r1, by rw [cap_sure.1]; exact r2, .inl cap_sure.2⟩
   show cond (Nat.beq (capOf c) 0) _ _ = _
   rw [beq_dec, decide_eq_false (by omega)]
   show mkSl b (o + 0 * size) (h - 0) _ = _
   rw [mk, Nat.zero_mul]; rfl
 obtain ⟨c', h1, h2⟩ := key
 refine ⟨c', h2, fun tm hf => ?_⟩
 show xSlice X.P t (opd tm x) none (some (opd tm y')) none s = _
 rw [ev_opd hf hx, ev_opd hf hy']
 unfold xSlice
 simp only [show X.P.underlying t = _ from X.B.un ht, show sizeOfT X.P e = _ from X.B.sz he]
 show ofO (slice2 size b o c 0 h) s = _
 rw [h1]; rfl
theorem Xv.slFrom {t t0 n0 e t1 size : Nat} {z0 z : Option (List Value)} {ke : Sh} {x y : Operand} {k : IntKind} {b o n c l N : Nat} (ht : tk X.B.T t = some ⟨t0, n0, .sl e, z0⟩) (he : tk X.B.T e = some ⟨t1, size, ke, z⟩) (hx : ev env x = some (.slice (some ⟨b, o, none⟩) n c)) (hy : ev env y = some (.int k (.ofNat l)))
  (hc : Rm c N size) (hn : n ≤ N) (hl : l < n) : ∃ c', Xv X (.slice t x (some y) none none) env s (.slice (some ⟨b, o + l * size, none⟩) (n - l) c') s := by
 have mk : ∀ o m d : Nat, mkSl b o m d = some (.slice (some ⟨b, o, none⟩) m d) := fun o m d => by unfold mkSl; simp only [fN_eq]
 have key : ∃ c', slice2 size b o c l n = some (.slice (some ⟨b, o + l * size, none⟩) (n - l) c') := by
  obtain ⟨r1, r2, r3⟩ := hc
  unfold slice2
  rw [Nat.ble_eq_true_of_le (Nat.le_of_lt hl), Nat.ble_eq_true_of_le (Nat.le_trans hn r2)]
  cases hcs : capSure c with
  | true =>
   refine ⟨sure (capOf c - l), ?_⟩
   show cond (Nat.beq (capOf c) l) _ _ = _
   rw [beq_dec, decide_eq_false (by omega)]
   exact mk _ _ _
  | false =>
   rw [hcs] at r3
   have hes : esOf c = size := r3.resolve_left (by simp)
   by_cases hl0 : l = 0
   ·subst hl0
    refine ⟨c, ?_⟩
    rw [Nat.zero_mul]
    exact mk _ _ _
   ·refine ⟨least (capOf c - l) size, ?_⟩
    show cond (Nat.beq l 0) _ (cond (Nat.blt l (capOf c)) _ _) = _
    rw [beq_dec, decide_eq_false hl0, blt_dec, decide_eq_true (by omega), hes]
    show cond (Nat.beq size size) _ _ = _
    rw [Nat.beq_refl]
    exact mk _ _ _
 obtain ⟨c', h1⟩ := key
 refine ⟨c', fun tm hf => ?_⟩
 show xSlice X.P t (opd tm x) (some (opd tm y)) none none s = _
 rw [ev_opd hf hx, ev_opd hf hy]
 unfold xSlice
 simp only [show X.P.underlying t = _ from X.B.un ht, show sizeOfT X.P e = _ from X.B.sz he]
 show ofO (slice2 size b o c l n) s = _
 rw [h1]; rfl
theorem Xv.arr {t t0 n0 n e : Nat} {z : Option (List Value)} {x : Operand} {b o m c : Nat} (ht : tk X.B.T t = some ⟨t0, n0, .ar n e, z⟩) (hx : ev env x = some (.slice (some ⟨b, o, none⟩) m c)) (hm : n ≤ m) : Xv X (.sliceToArrayPointer t x) env s (.pointer (some ⟨b, o, none⟩)) s := fun tm hf => by
 show xArr X.P t (opd tm x) s = _
 rw [ev_opd hf hx]
 unfold xArr
 simp only [show X.P.underlying t = _ from X.B.un ht, Nat.ble_eq_true_of_le hm]
 show okPt b o s = _
 unfold okPt
 rw [fN_eq]
end
section
variable {X : Fx} {env : Env} {df : List Deferred} {s : St} {Q : Post} {all : List Oper} {d : Option Nat} {ty : TypeId} {pos : String} {af : Array Edge} {gd : Option (Nat × Bool)} {i m : Nat} {L : List Sp} {past : Past}
theorem Wd.slTo {t t0 n0 e t1 size : Nat} {z0 z : Option (List Value)} {ke : Sh} {x y' : Operand} {k' : IntKind} {b o n c h N : Nat} (hg : wantsE all env gd = some true) (ht : tk X.B.T t = some ⟨t0, n0, .sl e, z0⟩) (he : tk X.B.T e = some ⟨t1, size, ke, z⟩) (hd : dOk X d = true) (hx : ev env x = some (.slice (some ⟨b, o, none⟩) n c)) (hy' : ev env y' = some (.int k' (.ofNat h)))
  (hc : Rm c N size) (hh : h ≤ N) (K : ∀ c', Rm c' N size → Wd X all L past (up d (.slice (some ⟨b, o, none⟩) h c') env) df s Q) : Wd X all (.mk .none i ⟨d, .slice t x none (some y') none, ty, pos, af, gd⟩ m :: L) past env df s Q := by
 obtain ⟨c', h1, h2⟩ := Xv.slTo (X := X) (env := env) (s := s) ht he hx hy' hc hh
 exact Wd.val hg h2 hd (Nat.le_refl _) (K c' h1)
theorem Wd.slFrom {t t0 n0 e t1 size : Nat} {z0 z : Option (List Value)} {ke : Sh} {x y : Operand} {k : IntKind} {b o n c l N : Nat} (hg : wantsE all env gd = some true) (ht : tk X.B.T t = some ⟨t0, n0, .sl e, z0⟩) (he : tk X.B.T e = some ⟨t1, size, ke, z⟩) (hd : dOk X d = true) (hx : ev env x = some (.slice (some ⟨b, o, none⟩) n c)) (hy : ev env y = some (.int k (.ofNat l)))
  (hc : Rm c N size) (hn : n ≤ N) (hl : l < n) (K : ∀ c', Wd X all L past (up d (.slice (some ⟨b, o + l * size, none⟩) (n - l) c') env) df s Q) : Wd X all (.mk .none i ⟨d, .slice t x (some y) none none, ty, pos, af, gd⟩ m :: L) past env df s Q := by
 obtain ⟨c', h2⟩ := Xv.slFrom (X := X) (env := env) (s := s) ht he hx hy hc hn hl
 exact Wd.val hg h2 hd (Nat.le_refl _) (K c')
end
end Go.Sy
namespace Go.Proofs.YtglilbadldocoaaGreatDoor
open Go Go.Ev Go.Sy
set_option maxRecDepth 100000
variable {s s0 : St} {p γ δ n c m N d : Nat} {q : Option Addr} {A D F G C : List Nat} {L cs : List Value}
theorem KpW {C D : Nat → Prop} {s1 s2 : St} (h : Kp C s s1) (k : Kp D s1 s2) (hD : ∀ c, D c → s.nx ≤ c) : Kp C s s2 :=
 ⟨Nat.le_trans h.le k.le, fun w => k.wf (h.wf w), fun w b o hb hc => k.kp (h.wf w) b o (h.kp w b o hb hc) fun hd => by have := (w.lt b o hb).2; have := hD _ hd; omega⟩
end Go.Proofs.YtglilbadldocoaaGreatDoor
namespace Go.Sy
open Go Go.Ev
section
variable {X : Fx} {env : Env} {s : St}
theorem Xv.sl3 {t t0 n0 e t1 size : Nat} {z0 z : Option (List Value)} {ke : Sh} {x y y' : Operand} {k k' : IntKind} {b o n c h : Nat} (ht : tk X.B.T t = some ⟨t0, n0, .sl e, z0⟩) (he : tk X.B.T e = some ⟨t1, size, ke, z⟩) (hx : ev env x = some (.slice (some ⟨b, o, none⟩) n c)) (hy : ev env y = some (.int k (.ofNat h))) (hy' : ev env y' = some (.int k' (.ofNat h))) (h0 : 0 < h) (hh : h ≤ capOf c) :
  Xv X (.slice t x none (some y) (some y')) env s (.slice (some ⟨b, o, none⟩) h (sure h)) s := fun tm hf => by
 have mk : ∀ o m d : Nat, mkSl b o m d = some (.slice (some ⟨b, o, none⟩) m d) := fun o m d => by unfold mkSl; simp only [fN_eq]
 show xSlice X.P t (opd tm x) none (some (opd tm y)) (some (opd tm y')) s = _
 rw [ev_opd hf hx, ev_opd hf hy, ev_opd hf hy']
 unfold xSlice
 simp only [show X.P.underlying t = _ from X.B.un ht, show sizeOfT X.P e = _ from X.B.sz he]
 show ofO (slice3 size b o c 0 h h) s = _
 unfold slice3
 rw [Nat.ble_eq_true_of_le (Nat.zero_le h), Nat.ble_eq_true_of_le (Nat.le_refl h), Nat.ble_eq_true_of_le hh]
 show ofO (cond (Nat.beq h 0) _ _) s = _
 rw [beq_dec, decide_eq_false (by omega)]
 show ofO (mkSl b (o + 0 * size) (h - 0) (sure (h - 0))) s = _
 rw [mk, Nat.zero_mul]; rfl
end
end Go.Sy
namespace Go.Proofs.YtglilbadldocoaaGreatDoor
open Go Go.Ev Go.Sy
set_option maxRecDepth 100000
variable {s : St} {b o n c : Nat} {q : Option Addr} {A D R : List Nat}
theorem copied_ok (w0 : Wf s) (hq : At s q (A.map nB)) (h0 : 0 < A.length) (hl : A.length < 2 ^ 40) : Cl B (.call 42 [.slice q A.length c]) s fun v s' => ∃ b γ, v = .slice (some ⟨b, 0, none⟩) A.length (sure A.length) ∧ Rw s' b (A.map nB) γ ∧ s.nx ≤ γ ∧ Kn s s' := by
 refine Cl.enter Tryz.f42 fn42 rfl rfl rfl ?_
 refine run1 ?_
 refine Wo.app rfl rfl rfl rfl rfl rfl rfl rfl rfl w0 (Gw.nil (γ := s.nx)) rfl (cells_at (k := A.length) (size := 1) hq (by rw [List.length_map, Nat.mul_one]) (by decide)) (by rw [List.length_map, Nat.mul_one]) one_nB rfl (by omega) (by omega) ?_
 intro q' c' γ' s' h1 h2 h3
 rw [Nat.zero_add, List.nil_append] at h1
 rw [Nat.zero_add]
 obtain ⟨b, rfl, ⟨g, h4, h5⟩, hc⟩ := h1.rw h0
 refine run1 ?_
 refine Wo.val rfl (Xv.sl3 rfl rfl rfl rfl rfl h0 (by rcases hc with rfl | rfl; exact Nat.le_of_eq (cap_least (by omega)).1.symm; exact Nat.le_of_eq cap_sure.1.symm)) rfl (run1 ?_)
 exact Lv.ret rfl ⟨b, γ', rfl, ⟨g, h4, h5⟩, by rcases h3 with h | ⟨h, _⟩ <;> omega, Kn.app .refl h2 (Nat.le_refl _)⟩
theorem len_cut (hq : At s (some ⟨b, o, none⟩) (D.map nB)) (h0 : 0 < D.length) (h7 : D.length < 7) (h1 : D.getD 0 0 = 202) : Cl B (.call 41 [.slice (some ⟨b, o, none⟩) D.length c]) s fun v s' => v = .tuple ⟨[nI 0, nI 91]⟩ ∧ s' = s := by
 have hB : Bs s (some ⟨b, o, none⟩) D := hq
 refine Cl.enter Tryz.f41 fn41 rfl rfl rfl ?_
 have hne : ¬ D.length = 0 := by omega
 have hgood : good (some ⟨b, o, none⟩) := good_b
 have h202 : ¬ (D.getD 0 0 ≠ 202) := fun h => h h1
 refine run1 ?_
 exact Lv.ret rfl ⟨rfl, rfl⟩
theorem bequal_same {r : Option Addr} {e : Nat} (h1 : At s q (A.map nB)) (h2 : At s r (A.map nB)) : Cl B (.call 62 [.slice q A.length c, .slice r A.length e]) s fun v s' => v = .bool true ∧ s' = s := by
 refine Cl.enter Tryz.f62 fn62 rfl rfl rfl ?_
 have hA : Bs s q A := h1
 have hD : Bs s r A := h2
 refine run1 ?_
 refine Wo.val rfl (Xv.b2s rfl rfl rfl rfl hA) rfl (run1 ?_)
 refine Wo.val rfl (Xv.b2s rfl rfl rfl rfl hD) rfl (run1 ?_)
 refine Wo.val rfl (Xv.seq rfl rfl) rfl (run1 ?_)
 refine Lv.ret rfl ⟨?_, rfl⟩
 show Value.bool (decide (strB A = strB A)) = _
 rw [decide_eq_true rfl]
theorem len_whole (w0 : Wf s) (hq : At s (some ⟨b, o, none⟩) (D.map nB)) (h7 : 7 ≤ D.length) (h1 : D.take 7 = fh n) (hn : n ≤ 16384) (hc : Rm c D.length 1) : Cl B (.call 41 [.slice (some ⟨b, o, none⟩) D.length c]) s fun v s' => v = .tuple ⟨[nI n, nI 0]⟩ ∧ Kn s s' := by
 have hB : Bs s (some ⟨b, o, none⟩) D := hq
 have hgood : good (some ⟨b, o, none⟩) := good_b
 have hd : ∀ i, i < 7 → D.getD i 0 = (fh n).getD i 0 := fun i hi => by
  rw [← h1, List.getD_eq_getElem?_getD, List.getD_eq_getElem?_getD, List.getElem?_take, if_pos hi]
 refine Cl.enter Tryz.f41 fn41 rfl rfl rfl ?_
 have hne : ¬ D.length = 0 := by omega
 have hn7 : ¬ D.length < 7 := by omega
 have hi1 : 1 < D.length := by omega
 have hi2 : 2 < D.length := by omega
 have hi3 : 3 < D.length := by omega
 have hi0 : 0 < D.length := by omega
 have h202 : ¬ (D.getD 0 0 ≠ 202) := fun h => h (hd 0 (by decide))
 refine run1 ?_
 refine W.dr [(0, .none, 0), (1, .none, 1), (2, .reads, 3), (3, .none, 7), (4, .none, 15), (5, .none, 0), (6, .none, 32), (7, .reads, 96), (8, .none, 224), (9, .none, 480), (10, .none, 1023), (11, .none, 0), (12, .none, 2048), (13, .reads, 6144), (14, .none, 14336), (15, .none, 32767), (16, .none, 65535)] (by kernel_rfl) rfl (run1 ?_)
 obtain ⟨x1, y1⟩ : ∃ x, x = D.getD 1 0 := ⟨_, rfl⟩
 obtain ⟨x2, y2⟩ : ∃ x, x = D.getD 2 0 := ⟨_, rfl⟩
 obtain ⟨x3, y3⟩ : ∃ x, x = D.getD 3 0 := ⟨_, rfl⟩
 have z1 : x1 = (n >>> 16) % 256 := by rw [y1, hd 1 (by decide)]; rfl
 have z2 : x2 = (n >>> 8) % 256 := by rw [y2, hd 2 (by decide)]; rfl
 have z3 : x3 = n % 256 := by rw [y3, hd 3 (by decide)]; rfl
 have t1 : x1 = 0 := by rw [z1, Nat.shiftRight_eq_div_pow, Nat.div_eq_of_lt (by omega)]
 have t2 : x2 = n / 256 := by rw [z2, Nat.shiftRight_eq_div_pow]; omega
 rw [← y1]
 have s2 : x2 <<< 8 = x2 * 256 := Nat.shiftLeft_eq _ _
 have o2 : Nat.lor (x2 * 256) x3 = n := by
  have := Nat.shiftLeft_add_eq_or_of_lt (show x3 < 2 ^ 8 by omega) x2
  rw [Nat.shiftLeft_eq] at this
  show x2 * 2 ^ 8 ||| x3 = n
  rw [← this]; omega
 refine Wd.val rfl (Xv.cv rfl rfl rfl (wrapI (by omega))) rfl (Nat.le_refl _) ?_
 refine Wd.val rfl (Xv.ar (r := 0) rfl rfl rfl (by rw [t1]; rfl)) rfl (Nat.le_refl _) (run1 ?_)
 rw [← y2]
 refine Wd.val rfl (Xv.cv rfl rfl rfl (wrapI (by omega))) rfl (Nat.le_refl _) ?_
 refine Wd.val rfl (Xv.ar (r := x2 * 256) rfl rfl rfl ((wrapI (n := x2 <<< 8) (by omega)).trans (congrArg some s2))) rfl (Nat.le_refl _) ?_
 refine Wd.val rfl (Xv.ar (r := x2 * 256) rfl rfl rfl ((wrapI (n := Nat.lor 0 (x2 * 256)) (by show 0 ||| x2 * 256 < _; rw [Nat.zero_or]; omega)).trans (congrArg some (Nat.zero_or _)))) rfl (Nat.le_refl _) (run1 ?_)
 rw [← y3]
 refine Wd.val rfl (Xv.cv rfl rfl rfl (wrapI (by omega))) rfl (Nat.le_refl _) ?_
 refine Wd.val rfl (Xv.ar (r := n) rfl rfl rfl ((wrapI (n := Nat.lor (x2 * 256) x3) (by omega)).trans (congrArg some o2))) rfl (Nat.le_refl _) (run1 ?_)
 refine Wo.call rfl (Xc.call ok40 rfl) rfl ((headOf_ok w0 (by omega)).mono ?_)
 rintro v s1 ⟨rfl, k1⟩
 have w1 : Wf s1 := k1.wf w0
 obtain ⟨H, hH⟩ : ∃ H, H = fh n := ⟨_, rfl⟩
 have hl : H.length = 7 := by rw [hH]; rfl
 rw [← hH]
 refine run1 ?_
 refine mkO (cs := (List.replicate 7 0).map nB) fun s2 r2 n2 k2 => ?_
 have w2 : Wf s2 := k2.wf w1
 refine Wo.st rfl rfl rfl rfl rfl rfl (by rw [List.length_map, hl]) one_nB r2 (by decide) fun s3 r3 n3 k3 => ?_
 rw [lov_all (by rw [List.length_map, hl]; rfl)] at r3
 have k03 : Kn s s3 := k1.call (k2.app k3 (Nat.le_refl _))
 have w3 : Wf s3 := k03.wf w0
 have hgt : ¬ 16384 < n := by omega
 have hDt : At s3 (some ⟨b, o, none⟩) (H.map nB) := by
  have h := (hq.kn w0 k03)
  rw [hH, ← h1, List.map_take]
  exact At.take h (by rw [List.length_map]; exact h7)
 refine run1 ?_
 refine W.dr [(0, .none, 0), (1, .none, 1), (2, .none, 3), (3, .none, 7), (4, .none, 15), (5, .none, 7), (6, .acts, 63), (7, .none, 127), (8, .none, 255)] (by kernel_rfl) rfl (run1 ?_)
 refine Wd.slTo (gT' rfl hgt) rfl rfl rfl rfl rfl hc h7 fun c1 hc1 => ?_
 refine Wd.val (gT' rfl hgt) (Xv.slP (b := s1.nx) (o := 0) rfl rfl rfl (by decide)).1 rfl (Nat.le_refl _) ?_
 have hbe := bequal_same (A := H) (c := c1) (e := sure 7) hDt r3.ats
 rw [hl] at hbe
 refine Wd.call (gT' rfl hgt) (Xc.call ok62 rfl) rfl (hbe.mono ?_)
 rintro v s4 ⟨rfl, e'⟩; rw [e']; clear e' s4
 refine ⟨Nat.le_refl _, run1 ?_⟩
 exact Lv.ret rfl ⟨rfl, k03⟩
theorem first_ok (w0 : Wf s) (hD : D = fw A ++ R) (hq : At s (some ⟨b, o, none⟩) (D.map nB)) (h0 : 0 < A.length) (hA : A.length ≤ 16384) (hc : Rm c D.length 1) (hl : D.length < 2 ^ 60) : Cl B (.call 21 [.slice (some ⟨b, o, none⟩) D.length c]) s fun v s' => ∃ b' γ, v = .tuple ⟨[.slice (some ⟨b', 0, none⟩) A.length (sure A.length), nI (7 + A.length), nI 0]⟩ ∧ Rw s' b' (A.map nB) γ ∧ s.nx ≤ γ ∧ Kn s s' := by
 have hfl : D.length = 7 + A.length + R.length := by rw [hD, fw, List.length_append, List.length_append]; rfl
 refine Cl.enter Tryz.f21 fn21 rfl rfl rfl ?_
 refine run1 ?_
 refine Wo.call rfl (Xc.call ok41 rfl) rfl ((len_whole w0 hq (n := A.length) (by omega) (by rw [hD, fw, List.append_assoc]; rfl) hA hc).mono ?_)
 rintro v s1 ⟨rfl, k1⟩
 have w1 : Wf s1 := k1.wf w0
 have hlt : ¬ D.length < 7 + A.length := by omega
 refine run1 ?_
 refine Wo.slLH rfl rfl rfl rfl rfl rfl rfl (by have := hc.2.1; omega) (by omega) hc.2.2 (hq.kn w0 k1) (by rw [List.length_map]; omega) fun q2 c2 h2 => ?_
 have e2 : ((D.map nB).drop (7 * 1)).take ((7 + A.length - 7) * 1) = A.map nB := by
  rw [hD, fw, List.append_assoc, show 7 * 1 = (fh A.length).length from rfl, List.map_append, List.drop_append_of_le_length (by rw [List.length_map]; exact Nat.le_refl _), List.drop_of_length_le (by rw [List.length_map]; exact Nat.le_refl _), List.nil_append, List.map_append, show (7 + A.length - 7) * 1 = (A.map nB).length by rw [List.length_map]; omega]
  exact List.take_left
 rw [e2] at h2
 rw [show 7 + A.length - 7 = A.length by omega]
 refine run1 ?_
 refine Wo.call rfl (Xc.call ok42 rfl) rfl ((copied_ok w1 h2 h0 (by omega)).mono ?_)
 rintro v s3 ⟨b', γ, rfl, r3, l3, k3⟩
 refine run1 ?_
 exact Lv.ret rfl ⟨b', γ, rfl, r3, Nat.le_trans k1.le l3, k1.call k3⟩
theorem first_cut (w0 : Wf s) (hq : At s (some ⟨b, o, none⟩) (D.map nB)) (h0 : 0 < D.length) (hp : ∃ R, R ≠ [] ∧ fw A = D ++ R) (hA : A.length ≤ 16384) (hc : Rm c D.length 1) : Cl B (.call 21 [.slice (some ⟨b, o, none⟩) D.length c]) s fun v s' => v = .tuple ⟨[.slice none 0 0, nI 0, nI 91]⟩ ∧ Kn s s' := by
 obtain ⟨R, hR, hD⟩ := hp
 have hRl : 0 < R.length := List.length_pos_iff.2 hR
 have hfl : 7 + A.length = D.length + R.length := by rw [← List.length_append, ← hD, fw, List.length_append]; rfl
 refine Cl.enter Tryz.f21 fn21 rfl rfl rfl ?_
 refine run1 ?_
 by_cases h7 : D.length < 7
 ·have hd0 : D.getD 0 0 = 202 := by
   have : (fw A).getD 0 0 = 202 := rfl
   rw [hD, List.getD_eq_getElem?_getD, List.getElem?_append_left h0, ← List.getD_eq_getElem?_getD] at this
   exact this
  refine Wo.call rfl (Xc.call ok41 rfl) rfl ((len_cut hq h0 h7 hd0).mono ?_)
  rintro v s1 ⟨rfl, e'⟩; rw [e']; clear e' s1
  refine run1 ?_
  exact Lv.ret rfl ⟨rfl, .refl⟩
 ·have ht : D.take 7 = fh A.length := by
   have h : (fw A).take 7 = fh A.length := rfl
   rw [hD, List.take_append_of_le_length (by omega)] at h
   exact h
  refine Wo.call rfl (Xc.call ok41 rfl) rfl ((len_whole w0 hq (by omega) ht hA hc).mono ?_)
  rintro v s1 ⟨rfl, k1⟩
  have hlt : D.length < 7 + A.length := by omega
  refine run1 ?_
  exact Lv.ret rfl ⟨rfl, k1⟩
open Go Go.Ev Go.Sy
set_option maxRecDepth 100000
variable {s : St}
def SlOk (v : Value) (A : List Nat) : Prop := A = [] ∨ ∃ b o N, v = .slice (some ⟨b, o, none⟩) A.length (sure N) ∧ A.length ≤ N
open Go Go.Ev Go.Sy
set_option maxRecDepth 100000
variable {s : St} {c nb cb r1 n1 r2 n2 r3 n3 : Nat} {S : List Nat}
theorem hd_pos1 {base n : Nat} : 0 < (hd base n).length := by unfold hd; split <;> simp
theorem bdy_ne {k c q : Nat} {P R : List Nat} {xs : List Ch} : bdy k c q P R xs ≠ [] := fun e => by
 unfold bdy fL at e
 have h := (List.append_eq_nil_iff.1 e).1
 have := hd_pos1 (base := 192) (n := (fS (dgs k) ++ fS (dgs c) ++ fS (dgs q) ++ fS P ++ fS R ++ fL (xs.flatMap chf)).length)
 unfold fL at this
 rw [h] at this
 exact absurd this (Nat.lt_irrefl _)
def Cdd (s : St) (b nb cb : Nat) (S : List Nat) (r1 n1 r2 n2 r3 n3 : Nat) (K : List Nat → List (List Nat)) (C : Nat → Prop) (m : Nat) (s' : St) : Prop := ∃ n2' C', n2' ≤ n2 + 1 ∧ Rw s' b (bkT nb cb S (bl 0 r1 n1 r2 n2' r3 n3)) b ∧ Nt s' r2 K C' (m + 1) ∧ ∀ c, C' c → C c ∨ s.nx ≤ c
theorem wr_ok {k cn q : Nat} {P R : List Nat} {Q : Option Addr} {xs : List Ch} {r b m : Nat} {A H : List Nat} {K : List Nat → List (List Nat)} {C : Nat → Prop} (w0 : Wf s) (hP : P.length = 32) (hR : R.length = 32) (h : RcOk s Q xs) (hm : mayR k cn q xs) (hPb : ∀ x ∈ P, x < 256) (hRb : ∀ x ∈ R, x < 256) (hx : ∀ x ∈ xs, (∀ y ∈ x.k, y < 256) ∧ ∀ y ∈ x.v, y < 256) (hA : A = bdy k cn q P R xs)
  (hb : Rw s b (bkT nb cb S (bl 0 r1 n1 r2 n2 r3 n3)) b) (hNt : Nt s r2 K C m) (hr : r2 ≠ b) (hCg : ¬ C b) (hCr : ¬ C r2) (hmm : m < 2 ^ 40) (hS : S.length = 32) (hSb : ∀ x ∈ S, x < 256) (hcb : cb ≤ 256) (hH : H = cutOf (hmc S A) cb) (hn2 : n2 < 2 ^ 60) (hT : ∀ s', Kp (fun c => c = b) s s' → TabAt s') :
  Cl B (.call 7 [.pointer (some ⟨b, 0, none⟩), .agg ⟨rcV k cn q P R (.slice Q xs.length r)⟩]) s fun v s' => ∃ bo, v = .tuple ⟨[.slice (some ⟨bo, 0, none⟩) (fw (A ++ H)).length (sure (fw (A ++ H)).length), hsh H, nI 0]⟩ ∧ s.nx ≤ bo ∧ Rw s' bo ((fw (A ++ H)).map nB) bo ∧ Cdd s b nb cb S r1 n1 r2 n2 r3 n3 (kadd K H A) C m s' ∧ Kp (fun c => c = b ∨ c = r2 ∨ C c) s s' := by
 have hAl := bdy_ok hP hR hm hPb hRb hx
 rw [← hA] at hAl
 have hbl := hb.lt w0
 have hrl := hNt.lt w0
 refine jwrite_ok (D := fun c => c = b ∨ c = r2 ∨ C c) (K := Cdd s b nb cb S r1 n1 r2 n2 r3 n3 (kadd K H A) C m) w0 (hT s .refl) hP hR h hm hPb hRb hx hA (by rw [hH]; exact ctN_length.trans hmc_length) (fun c hc => by
  rcases hc with rfl | rfl | hc
  ·exact hbl.2
  ·exact hrl
  ·exact hNt.old c hc) fun s3 bb k3 hbb rb => ?_
 have w3 := k3.wf w0
 have e3 := k3.le
 refine (ncode_ok (m := m) w3 (hb.kp w0 k3 id) (hNt.kp w0 k3 id (fun _ _ h => h)) hr hCg hCr hmm hS hSb rb.ats ?_ (by rw [hA]; exact bdy_ne) (Cap.sure (Nat.le_refl _)) ?_ hcb hH hn2 (fun s' k => hT s' ((k3.w).trans k)) (fun δ hδ => by have := rw_col rb hδ; have := hbl.1; omega)).mono ?_
 ·exact hAl.2
 ·have := hAl.1; omega
 rintro v s4 ⟨rfl, n2', h1, h2, h3, h4⟩
 have w4 := h4.wf w3
 refine ⟨rfl, h4, fun s' k' => ⟨n2', _, h1, h2.kp w4 k' (by have := hbl.1; omega), h3.kp w4 k' (by omega) (fun c hc e => ?_), fun c hc => hc.imp id (fun h => by omega)⟩⟩
 rcases hc with hc | hc
 ·have := hNt.old c hc; omega
 ·omega
end Go.Proofs.YtglilbadldocoaaGreatDoor
