import Derived.Test.YtglilbadldocoaaGreatDoorJczz
import Derived.Test.YtglilbadldocoaaGreatDoorCwzz
import Derived.Test.YtglilbadldocoaaGreatDoorBbzz
import Derived.Test.YtglilbadldocoaaGreatDoorWf1zz
import Derived.Test.YtglilbadldocoaaGreatDoorSwzz
import Derived.Test.YtglilbadldocoaaGreatDoorSszz
namespace Go.Sy
open Go Go.Ev
theorem Xv.neB {X : Fx} {env : Env} {s : St} {t t0 n : Nat} {z : Option (List Value)} {t' : TypeId} {x y : Operand} {a b : Bool} (ht : tk X.B.T t = some ⟨t0, n, .bl, z⟩) (hx : ev env x = some (.bool a)) (hy : ev env y = some (.bool b)) : Xv X (.binOp .neq t x y t') env s (.bool (!(a == b))) s := fun tm hf => by
 have hu : X.P.underlying t = some .bool := X.B.un ht
 show xBin X.P .neq t x y (opd tm x) (opd tm y) s = _
 rw [ev_opd hf hx, ev_opd hf hy]
 show eqA X.P .neq t x y (.bool a) (.bool b) s = _
 unfold eqA
 rw [show eqNil (X.P.underlying t) (.bool a) (.bool b) = none by rw [hu]; rfl]
 show ofPure X.P (do eqGuard .neq t x y (.bool a) (.bool b); binOp .neq t (.bool a) (.bool b)) s = _
 unfold ofPure
 rw [pureRun_bind, show pureRun X.P (eqGuard .neq t x y (.bool a) (.bool b)) = some () from rfl]
 show (match pureRun X.P (do pure (Value.bool (!(← Op.equal t (.bool a) (.bool b))))) with | some v => ofV v s | none => .no) = _
 have e : pureRun X.P (Op.equal t (.bool a) (.bool b)) = some (a == b) := by
  unfold Op.equal Op.maxDepth
  show pureRun X.P (Op.equalIn (9999 + 1) t (.bool a) (.bool b)) = _
  rw [Op.equalIn, pureRun_bind, pureRun_und hu]
  rfl
 rw [pureRun_bind, e]
 show okB (!(a == b)) s = _
 generalize (a == b) = b
 cases b <;> rfl
end Go.Sy
namespace Go.Proofs.YtglilbadldocoaaGreatDoor
open Go Go.Ev Go.Sy
set_option maxRecDepth 100000
variable {s : St}
end Go.Proofs.YtglilbadldocoaaGreatDoor
namespace Go.Sy
open Go Go.Ev
theorem Gw.ltq {s : St} {q : Option Addr} {n c size : Nat} {cs : List Value} {γ : Nat} (h : Gw s q n c size cs γ) (w : Wf s) (hq : q ≠ none) : γ < s.nx := by
 rcases h.at' with ⟨e1, _⟩ | ⟨b, g, e1, e2, e3, e4⟩
 ·exact absurd e1 hq
 ·exact (Rw.lt ⟨g, e2, e3⟩ w).2
section
variable {X : Fx} {env : Env} {df : List Deferred} {s : St} {Q : Post} {all os : List Oper} {d : Option Nat} {ty : TypeId} {pos : String} {af : Array Edge} {g : Option (Nat × Bool)} {x y : Operand} {t u e n0 nu : Nat} {z0 zu : Option (List Value)} {z : List Value} {t0 t1 tu : Nat} {ke ku : Sh} {q q' : Option Addr} {c c' γ : Nat} {A D : List Nat}
theorem Wo.appB (hgd : wantsE all env g = some true) (ht : tk X.B.T t = some ⟨t0, n0, .sl e, z0⟩) (he : tk X.B.T e = some ⟨t1, 1, ke, some z⟩) (hu : tk X.B.T u = some ⟨tu, nu, ku, zu⟩) (hn : notI ku = true) (hd : dOk X d = true)
  (hx : ev env x = some (.slice q A.length c)) (hy : ev env y = some (.slice q' D.length c')) (w : Wf s) (hg : Gw s q A.length c 1 (A.map nB) γ) (hD : Bs s q' D) (hV : lkV X.B.V e = some 1) (hl : A.length + D.length < 2 ^ 40)
  (K : ∀ q2 c2 γ2 s2, Gw s2 q2 (A ++ D).length c2 1 ((A ++ D).map nB) γ2 → Kp (fun x => x = γ) s s2 → (γ2 = γ ∨ γ2 = s.nx ∧ Kn s s2) → Wo X all os (up d (.slice q2 (A ++ D).length c2) env) df s2 Q) :
  Wo X all (⟨d, .call ⟨.builtin .append, #[x, y], #[t, u]⟩, ty, pos, af, g⟩ :: os) env df s Q := by
 refine Wo.app hgd ht he hu hn rfl hd hx hy w hg rfl hD.cells (by rw [List.length_map, Nat.mul_one]) one_nB hV (by omega) (by omega) ?_
 intro q2 c2 γ2 s2 h1 h2 h3
 have := K q2 c2 γ2 s2 (by rw [List.length_append, List.map_append]; exact h1) h2 h3
 rw [List.length_append] at this
 exact this
end
end Go.Sy
namespace Go.Proofs.YtglilbadldocoaaGreatDoor
open Go Go.Ev Go.Sy
set_option maxRecDepth 100000
variable {s : St}
def chi (x : Ch) : List Nat := fS x.k ++ (if x.g then [] else fS x.v)
def chf (x : Ch) : List Nat := fL (chi x)
def bdy (k c q : Nat) (P R : List Nat) (xs : List Ch) : List Nat := fL (fS (dgs k) ++ fS (dgs c) ++ fS (dgs q) ++ fS P ++ fS R ++ fL (xs.flatMap chf))
theorem hd_le {base n : Nat} (hn : n < 2 ^ 40) : (hd base n).length ≤ 9 := by
 unfold hd
 split
 ·exact (show 1 ≤ 9 by decide)
 ·have := dgs_len (k := 8) (n := n) (by omega)
  rw [List.length_cons]; omega
theorem fS_le {A : List Nat} (h : A.length < 2 ^ 40) : (fS A).length ≤ A.length + 9 := by
 unfold fS
 split
 ·omega
 ·have := hd_le (base := 128) h
  rw [List.length_append]; omega
theorem fL_le {A : List Nat} (h : A.length < 2 ^ 40) : (fL A).length ≤ A.length + 9 := by
 unfold fL
 have := hd_le (base := 192) h
 rw [List.length_append]; omega
theorem chf_le {x : Ch} (h : chM x) : (chi x).length ≤ 306 ∧ (chf x).length ≤ 315 := by
 have h1 := h.1
 have h2 := h.2.1
 have e1 := fS_le (A := x.k) (by omega)
 have e2 := fS_le (A := x.v) (by omega)
 have e3 : (chi x).length ≤ 306 := by
  unfold chi
  rw [List.length_append]
  split
  ·rw [List.length_nil]; omega
  ·omega
 exact ⟨e3, by have := fL_le (A := chi x) (by omega); unfold chf; omega⟩
theorem flat_le {xs : List Ch} (h : ∀ x ∈ xs, chM x) : (xs.flatMap chf).length ≤ 315 * xs.length := by
 induction xs with
 | nil => simp
 | cons x xs ih =>
  rw [List.flatMap_cons, List.length_append, List.length_cons]
  have := (chf_le (h x (by simp))).2
  have := ih fun y hy => h y (by simp [hy])
  omega
open Go Go.Ev Go.Sy
set_option maxRecDepth 100000
variable {s : St}
variable {q : Option Addr} {c : Nat} {S : List Nat}
def rbV (nb cb : Nat) (S : Value) (a b c : Value) : List Value := [nI nb, nI cb, S, a, b, c]
theorem rnew_ok {nb cb : Nat} (w0 : Wf s) (hq : Bs s q S) (hS : S.length = 32) (h1 : 8 ≤ nb ∧ nb ≤ 256) (h2 : 8 ≤ cb ∧ cb ≤ 256) :
  Cl B (.call 15 [nI nb, nI cb, .slice q 32 c]) s fun v s' => ∃ b u, v = .tuple ⟨[.pointer (some ⟨b, 0, none⟩), nI 0]⟩ ∧ Rw s' b (rbV nb cb u (.slice none 0 0) (.slice none 0 0) (.slice none 0 0)) b ∧ s.nx ≤ b ∧ New s s' u S := by
 refine Cl.enter Tryz.f15 fn15 rfl rfl rfl ?_
 have f1 : ¬ nb < 8 := by omega
 have f2 : ¬ 256 < nb := by omega
 have f3 : ¬ cb < 8 := by omega
 have f4 : ¬ 256 < cb := by omega
 refine run1 ?_
 refine mkO (cs := []) fun s1 r1 n1 k1 => ?_
 have w1 : Wf s1 := k1.wf w0
 refine Wo.appB (A := []) (D := S) rfl rfl rfl rfl rfl rfl rfl (by rw [hS]; rfl) w1 (r1.gw rfl) (hq.kn w0 k1) rfl (by rw [List.length_nil]; omega) ?_
 intro q2 c2 γ2 s2 h1 h2 h3
 have K2 : Kn s s2 := k1.app h2 (Nat.le_refl _)
 have w2 : Wf s2 := K2.wf w0
 have l2 : s.nx ≤ γ2 := by have := k1.le; rcases h3 with h | ⟨h, _⟩ <;> omega
 rw [List.nil_append] at h1
 refine run1 ?_
 refine mk_gen (cs := rbV nb cb (.slice q2 S.length c2) (.slice none 0 0) (.slice none 0 0) (.slice none 0 0)) (M := fun s' => Lv _ _ _ _ _ _ s') fun s3 r3 n3 k3 => ?_
 exact Lv.ret rfl ⟨s2.nx, .slice q2 S.length c2, rfl, r3, K2.le, q2, c2, γ2, rfl, h1.kp w2 k3 id, l2, K2.call k3⟩
open Go Go.Ev Go.Sy
set_option maxRecDepth 100000
variable {s : St} {q : Option Addr} {c : Nat}
variable {A : List Nat}
open Go Go.Ev Go.Sy
set_option maxRecDepth 100000
variable {s : St} {q r : Option Addr} {c d : Nat} {S M : List Nat}
theorem Kp.late {C : Nat → Prop} {s s1 s2 : St} {γ : Nat} (h : Kp C s s1) (k : Kp (fun c => c = γ) s1 s2) (hN : s.nx ≤ γ) : Kp C s s2 :=
 ⟨Nat.le_trans h.le k.le, fun w => k.wf (h.wf w), fun w b o hb hc => k.kp (h.wf w) b o (h.kp w b o hb hc) fun e => by have := (w.lt b o hb).2; omega⟩
open Go Go.Ev Go.Sy
set_option maxRecDepth 100000
variable {s : St} {qs : Option Addr} {cS : Nat} {S : List Nat}
open Go Go.Ev Go.Sy
set_option maxRecDepth 100000
theorem hd_byte {base n : Nat} (hb : base ≤ 192) (hn : n < 2 ^ 40) : ∀ x ∈ hd base n, x < 256 := by
 intro x hx
 unfold hd at hx
 split at hx
 ·rw [List.mem_singleton] at hx; omega
 ·have := dgs_len (k := 5) (n := n) (by omega)
  rcases List.mem_cons.1 hx with rfl | hx
  ·omega
  ·exact dgs_byte x hx
theorem fS_byte {A : List Nat} (h : A.length < 2 ^ 40) (hA : ∀ x ∈ A, x < 256) : ∀ x ∈ fS A, x < 256 := by
 intro x hx
 unfold fS at hx
 split at hx
 ·exact hA x hx
 ·rcases List.mem_append.1 hx with hx | hx
  ·exact hd_byte (by decide) h x hx
  ·exact hA x hx
theorem fL_byte {A : List Nat} (h : A.length < 2 ^ 40) (hA : ∀ x ∈ A, x < 256) : ∀ x ∈ fL A, x < 256 := by
 intro x hx
 unfold fL at hx
 rcases List.mem_append.1 hx with hx | hx
 ·exact hd_byte (by decide) h x hx
 ·exact hA x hx
theorem chf_byte {x : Ch} (h : chM x) (hk : ∀ y ∈ x.k, y < 256) (hv : ∀ y ∈ x.v, y < 256) : ∀ y ∈ chf x, y < 256 := by
 have h1 := h.1
 have h2 := h.2.1
 have h3 := (chf_le h).1
 refine fL_byte (by omega) fun y hy => ?_
 unfold chi at hy
 rcases List.mem_append.1 hy with hy | hy
 ·exact fS_byte (by omega) hk y hy
 ·split at hy
  ·cases hy
  ·exact fS_byte (by omega) hv y hy
theorem bdy_ok {k c q : Nat} {P R : List Nat} {xs : List Ch} (hP : P.length = 32) (hR : R.length = 32) (hm : mayR k c q xs) (hPb : ∀ x ∈ P, x < 256) (hRb : ∀ x ∈ R, x < 256) (hx : ∀ x ∈ xs, (∀ y ∈ x.k, y < 256) ∧ ∀ y ∈ x.v, y < 256) :
  (bdy k c q P R xs).length ≤ 12000 ∧ ∀ x ∈ bdy k c q P R xs, x < 256 := by
 have hk2 : k ≤ 2 := by rcases hm.1 with ⟨h, _⟩ | ⟨h, _⟩ <;> omega
 have hc40 : c ≤ 1099511627776 := by have := hm.2.2.1; omega
 have hq40 : q ≤ 1099511627776 := by have := hm.2.2.2.1; omega
 have hx32 : xs.length ≤ 32 := by rcases hm.1 with ⟨_, _, h⟩ | ⟨_, _, h⟩ <;> omega
 have hmay := hm.2.2.2.2
 have hfl := flat_le hmay
 have hdk := dgs_len (k := 8) (n := k) (by omega)
 have hdc := dgs_len (k := 8) (n := c) (by omega)
 have hdq := dgs_len (k := 8) (n := q) (by omega)
 have e1 := fS_le (A := dgs k) (by omega)
 have e2 := fS_le (A := dgs c) (by omega)
 have e3 := fS_le (A := dgs q) (by omega)
 have e4 := fS_le (A := P) (by omega)
 have e5 := fS_le (A := R) (by omega)
 have e6 := fL_le (A := xs.flatMap chf) (by omega)
 have hl : (fS (dgs k) ++ fS (dgs c) ++ fS (dgs q) ++ fS P ++ fS R ++ fL (xs.flatMap chf)).length ≤ 11000 := by
  simp only [List.length_append]; omega
 have e7 := fL_le (A := fS (dgs k) ++ fS (dgs c) ++ fS (dgs q) ++ fS P ++ fS R ++ fL (xs.flatMap chf)) (by omega)
 refine ⟨by unfold bdy; omega, fL_byte (by omega) fun x h => ?_⟩
 rcases List.mem_append.1 h with h | h
 ·rcases List.mem_append.1 h with h | h
  ·rcases List.mem_append.1 h with h | h
   ·rcases List.mem_append.1 h with h | h
    ·rcases List.mem_append.1 h with h | h
     ·exact fS_byte (by omega) dgs_byte x h
     ·exact fS_byte (by omega) dgs_byte x h
    ·exact fS_byte (by omega) dgs_byte x h
   ·exact fS_byte (by omega) hPb x h
  ·exact fS_byte (by omega) hRb x h
 ·refine fL_byte (by omega) (fun y hy => ?_) x h
  obtain ⟨z, h1, h2⟩ := List.mem_flatMap.1 hy
  exact chf_byte (hmay z h1) (hx z h1).1 (hx z h1).2 y h2
open Go Go.Ev Go.Sy
set_option maxRecDepth 100000
variable {s : St} {qs : Option Addr} {cS : Nat} {S : List Nat}
open Go Go.Ev Go.Sy
set_option maxRecDepth 100000
variable {s : St}
open Go Go.Ev Go.Sy
set_option maxRecDepth 100000
variable {s : St}
def FmK (s : St) (C : Nat → Prop) (d : Nat) (cs : List Value) (F : List Nat) : Prop := ∀ s', Kp (fun c => C c ∨ s.nx ≤ c) s s' → Fm s' d cs F
theorem FmK.step {t : St} {C C' : Nat → Prop} {d : Nat} {cs : List Value} {F : List Nat} (h : FmK s C d cs F) (k : Kp (fun c => C c ∨ s.nx ≤ c) s t) (hg : ∀ c, C' c → C c ∨ s.nx ≤ c) : FmK t C' d cs F := fun s' k' => h s' (k.trans (k'.mono fun c hc => by
 have := k.le
 rcases hc with hc | hc
 ·exact hg c hc
 ·exact .inr (by omega)))
theorem fm_str {C : Nat → Prop} {d : Nat} {q : Option Addr} {c γ : Nat} {A : List Nat} (w : Wf s) (h : Sl s q (A.map nB) γ) (hg : ¬ C γ) (hn : γ < s.nx) (hl : A.length < 2 ^ 40) : FmK s C (d + 1) [.bool false, .slice q A.length c, .slice none 0 0] (fS A) := fun s' k =>
 .inl ⟨q, c, A, none, 0, rfl, (h.kp w k (fun h => h.elim hg (by omega))).at, hl, rfl⟩
theorem fm_lst {C : Nat → Prop} {d n : Nat} {q : Option Addr} {c γ : Nat} {css : List (List Value)} {Fs : List (List Nat)} (w : Wf s) (h : Sl s q css.flatten γ) (hg : ¬ C γ) (hn : γ < s.nx) (hN : n = Fs.length) (hl : css.length = Fs.length) (hf : Fs.length < 2 ^ 40) (h3 : ∀ x ∈ css, x.length = 3)
  (hi : ∀ (i : Nat) (x : List Value) (G : List Nat), css[i]? = some x → Fs[i]? = some G → FmK s C d x G) : FmK s C (d + 1) [.bool true, .slice none 0 0, .slice q n c] (fL Fs.flatten) := fun s' k => by
 subst hN
 exact .inr ⟨q, c, none, 0, css, Fs, rfl, (h.kp w k (fun h => h.elim hg (by omega))).at, hl, hf, h3, fun i x G hx hG => hi i x G hx hG s' k, rfl⟩
structure Ci (s : St) (xs : List Ch) (b2 b3 i : Nat) (t : St) (q : Option Addr) (c γ : Nat) (css : List (List Value)) : Prop where
 r2 : Rw t b2 z3 b2
 r3 : Rw t b3 [.bool true, .slice none 0 0, .slice q i c] b3
 kn : Kn s t
 len : css.length = i
 l3 : ∀ x ∈ css, x.length = 3
 gw : Gw t q i c 3 css.flatten γ
 st : (i = 0 ∧ q = none) ∨ (s.nx ≤ γ ∧ γ < t.nx ∧ γ ≠ b2 ∧ γ ≠ b3)
 it : ∀ (j : Nat) (y : List Value) (x : Ch), css[j]? = some y → xs[j]? = some x → FmK t (fun c => c = γ ∨ c = b2 ∨ c = b3) 2 y (chf x)
set_option maxHeartbeats 1600000 in
theorem chg_ok {Q : Option Addr} {xs : List Ch} {C : Nat} (w0 : Wf s) (h : RcOk s Q xs) (hm : ∀ x ∈ xs, chM x) (hx32 : xs.length ≤ 32) :
  Cl B (.call 36 [.slice Q xs.length C]) s fun v s' => ∃ q c, v = .agg ⟨[.bool true, .slice none 0 0, .slice q xs.length c]⟩ ∧ Fm s' 3 [.bool true, .slice none 0 0, .slice q xs.length c] (fL (xs.flatMap chf)) ∧ Kn s s' := by
 refine Cl.enter Tryz.f36 fn36 rfl rfl rfl ?_
 refine run1 ?_
 refine mkO (cs := z3) fun s1 r1 n1 k1 => ?_
 have w1 : Wf s1 := k1.wf w0
 refine Wo.call rfl (Xc.call ok33 rfl) rfl ((listOf_ok w1).mono ?_)
 rintro v s2 ⟨rfl, k2⟩
 have w2 : Wf s2 := k2.wf w1
 have e2 := k2.le
 refine run1 ?_
 refine mkO (cs := z3) fun s3 r3 n3 k3 => ?_
 have w3 : Wf s3 := k3.wf w2
 refine Wo.st rfl rfl rfl rfl rfl rfl rfl (by intro v hv; simp at hv; rcases hv with rfl | rfl | rfl <;> rfl) r3 (by decide) fun s4 r4 n4 k4 => ?_
 have r4' : Rw s4 s2.nx [.bool true, .slice none 0 0, .slice none 0 0] s2.nx := r4
 have k04 : Kn s s4 := (k1.call (k2.call k3)).app k4 (by omega)
 have w4 : Wf s4 := k04.wf w0
 have rr2 : Rw s4 s.nx z3 s.nx := (((r1.kp w1 k2 id).kp w2 k3 id)).kp w3 k4 (by omega)
 obtain ⟨b2, hb2⟩ : ∃ b, b = s.nx := ⟨_, rfl⟩
 obtain ⟨b3, hb3⟩ : ∃ b, b = s2.nx := ⟨_, rfl⟩
 rw [← hb2] at rr2 ⊢
 rw [← hb3] at r4' ⊢
 refine run1 ?_
 refine W.loop (α := Nat × St) (fun a => [(2, .pointer (some ⟨b2, 0, none⟩)), (3, .pointer (some ⟨b3, 0, none⟩)), (8, .slice Q xs.length C), (9, nI xs.length), (10, nI a.1)]) (fun _ => []) (fun a => a.2)
  (fun a => a.1 ≤ xs.length ∧ ∃ q c γ css, Ci s xs b2 b3 a.1 a.2 q c γ css) (fun a => xs.length - a.1) (0, s4) ⟨Nat.zero_le _, none, 0, 0, [], rr2, r4', k04, rfl, fun x hx => (List.not_mem_nil hx).elim, .nil, .inl ⟨rfl, rfl⟩, fun j y x hy => by simp at hy⟩ (.cons rfl (.cons rfl (.cons rfl (.cons rfl (.cons rfl .nil))))) rfl rfl (by show xs.length - 0 < _; omega) ?_
 rintro ⟨i, t⟩ ⟨i1, q, c, γ, css, I⟩
 simp only at i1 I
 dsimp only
 have wt : Wf t := I.kn.wf w0
 have et := I.kn.le
 by_cases hi : i < xs.length
 ·have hok := h.ok _ (List.getElem_mem hi)
  have hch := hm _ (List.getElem_mem hi)
  obtain ⟨gQ, lx⟩ := (h.kn w0 I.kn).kid hi
  obtain ⟨x, ex⟩ : ∃ x, x = xs[i] := ⟨_, rfl⟩
  rw [← ex] at hok hch lx
  have hone := hok.one
  obtain ⟨⟨qk, ck, ek, bk1, bk2⟩, ⟨qv, cv, ev1, bv1, bv2⟩, _, _⟩ := hok
  rw [chc, ek, ev1] at lx hone
  have hk32 := hch.1
  have hv256 := hch.2.1
  refine run1 ?_
  refine mkO (cs := [.slice none 0 0, .slice none 0 0, .bool false]) fun t1 p1 m1 g1 => ?_
  have wt1 : Wf t1 := g1.wf wt
  refine Wo.st rfl rfl rfl rfl rfl rfl rfl hone p1 (by decide) fun t2 p2 m2 g2 => ?_
  have p2' : Rw t2 t.nx [.slice qk x.k.length ck, .slice qv x.v.length cv, .bool x.g] t.nx := p2
  have kt2 : Kn t t2 := g1.app g2 (Nat.le_refl _)
  have wt2 : Wf t2 := kt2.wf wt
  obtain ⟨b5, hb5⟩ : ∃ b, b = t.nx := ⟨_, rfl⟩
  rw [← hb5] at p2' ⊢
  have g5 : good (some ⟨b5, 0, none⟩) := good_b
  have l0 : ldq t2 (qadd (some ⟨b5, 0, none⟩) 0) = some (.slice qk x.k.length ck) := p2'.f1 rfl
  refine run1 ?_
  refine Wo.call rfl (Xc.call ok35 rfl) rfl ((stringItem_ok wt2).mono ?_)
  rintro v t3 ⟨rfl, g3⟩
  have wt3 : Wf t3 := g3.wf wt2
  refine run1 ?_
  refine mkO (cs := [.bool false, .slice qk x.k.length ck, .slice none 0 0]) fun t4 p4 m4 g4 => ?_
  have wt4 : Wf t4 := g4.wf wt3
  refine Wo.call rfl (Xc.call ok33 rfl) rfl ((listOf_ok wt4).mono ?_)
  rintro v t5 ⟨rfl, h5⟩
  have wt5 : Wf t5 := h5.wf wt4
  obtain ⟨bl, hbl⟩ : ∃ b, b = t3.nx := ⟨_, rfl⟩
  rw [← hbl] at p4 ⊢
  refine run1 ?_
  refine mkO (cs := z3) fun t6 p6 m6 g6 => ?_
  have wt6 : Wf t6 := g6.wf wt5
  refine Wo.st rfl rfl rfl rfl rfl rfl rfl (by intro v hv; simp at hv; rcases hv with rfl | rfl | rfl <;> rfl) p6 (by decide) fun t7 p7 m7 g7 => ?_
  have p7' : Rw t7 t5.nx [.bool true, .slice none 0 0, .slice (some ⟨bl, 0, none⟩) 1 (sure 1)] t5.nx := p7
  obtain ⟨b6, hb6⟩ : ∃ b, b = t5.nx := ⟨_, rfl⟩
  rw [← hb6] at p7' ⊢
  have e3 := g3.le
  have e5 := h5.le
  have ek2 := kt2.le
  have K27 : Kn t2 t7 := (g3.call (g4.call (h5.call g6))).app g7 (by omega)
  have wt7 : Wf t7 := K27.wf wt2
  have pl7 : Rw t7 bl [.bool false, .slice qk x.k.length ck, .slice none 0 0] bl := ((p4.kp wt4 h5 id).kp wt5 g6 id).kp wt6 g7 (by omega)
  have p57 : Rw t7 b5 [.slice qk x.k.length ck, .slice qv x.v.length cv, .bool x.g] b5 := p2'.kp wt2 K27 id
  have g6' : good (some ⟨b6, 0, none⟩) := good_b
  have lg : ldq t7 (qadd (some ⟨b5, 0, none⟩) 2) = some (.bool x.g) := p57.f1 rfl
  have Kt7 : Kn t t7 := kt2.call K27
  have K07 : Kn s t7 := I.kn.call Kt7
  have hnx7 : t7.nx = t5.nx + 1 := by omega
  refine run1 ?_
  refine W.meet (α := St × (Option Addr × Nat × Nat)) (fun a => [(2, .pointer (some ⟨b2, 0, none⟩)), (3, .pointer (some ⟨b3, 0, none⟩)), (8, .slice Q xs.length C), (9, nI xs.length), (10, nI i), (6, .pointer (some ⟨b6, 0, none⟩))]) (fun a => a.1)
   (fun a => Kn t a.1 ∧ t7.nx ≤ a.1.nx ∧ Rw a.1 b5 [.slice qk x.k.length ck, .slice qv x.v.length cv, .bool x.g] b5 ∧ ∃ n css', Rw a.1 b6 [.bool true, .slice none 0 0, .slice a.2.1 n a.2.2.1] b6 ∧ Sl a.1 a.2.1 css'.flatten a.2.2.2 ∧ t.nx < a.2.2.2 ∧ a.2.2.2 < a.1.nx ∧ a.2.2.2 ≠ b5 ∧ a.2.2.2 ≠ b6 ∧
    ((x.g = true ∧ n = 1 ∧ css' = [[.bool false, .slice qk x.k.length ck, .slice none 0 0]]) ∨ (x.g = false ∧ n = 2 ∧ css' = [[.bool false, .slice qk x.k.length ck, .slice none 0 0], [.bool false, .slice qv x.v.length cv, .slice none 0 0]]))) ?_ ?_
  ·cases hg : x.g with
   | true =>
    rw [hg] at lg
    refine run1 ?_
    refine meet.n (t7, some ⟨bl, 0, none⟩, sure 1, bl) ⟨Kt7, Nat.le_refl _, by rw [← hg]; exact p57, 1, [[.bool false, .slice qk x.k.length ck, .slice none 0 0]], p7', (pl7.sl (o := 0) (n := 3) (Nat.le_refl _)), by show t.nx < bl; omega, by show bl < t7.nx; omega, by show bl ≠ b5; omega, by show bl ≠ b6; omega, .inl ⟨rfl, rfl, rfl⟩⟩ (.cons rfl (.cons rfl (.cons rfl (.cons rfl (.cons rfl (.cons rfl .nil)))))) rfl
   | false =>
    rw [hg] at lg p57
    have lv : ldq t7 (qadd (some ⟨b5, 0, none⟩) 1) = some (.slice qv x.v.length cv) := p57.f1 rfl
    refine run1 ?_
    refine W.dr [(2, .none, 0), (3, .reads, 4), (4, .acts, 12), (0, .none, 0), (1, .reads, 1), (5, .makes, 28), (6, .acts, 63), (7, .none, 127), (8, .acts, 255)] (by kernel_rfl) rfl (run1 ?_)
    refine Wd.call rfl (Xc.call ok35 rfl) rfl ((stringItem_ok wt7).mono ?_)
    rintro v t8 ⟨rfl, g8⟩
    refine ⟨g8.le, ?_⟩
    have wt8 : Wf t8 := g8.wf wt7
    have e8 := g8.le
    have l6' : ldq t7 (qadd (some ⟨b6, 0, none⟩) 2) = some (.slice (some ⟨bl, 0, none⟩) 1 (sure 1)) := p7'.f1 rfl
    have l6 : ldq t8 (qadd (some ⟨b6, 0, none⟩) 2) = some (.slice (some ⟨bl, 0, none⟩) 1 (sure 1)) := (p7'.kp wt7 g8 id).f1 rfl
    refine run1 ?_
    refine mk_gen (cs := [.bool false, .slice qv x.v.length cv, .slice none 0 0]) (M := fun s' => Wd _ _ _ _ _ _ s' _) fun t9 p9 m9 g9 => ?_
    have wt9 : Wf t9 := g9.wf wt8
    have K79 : Kn t7 t9 := g8.call g9
    refine Wd.app rfl rfl rfl rfl rfl rfl rfl rfl rfl wt9 ((pl7.kp wt7 K79 id).gw rfl) rfl (cells_at (k := 1) (size := 3) p9.ats rfl (by decide)) rfl (by intro v hv; simp at hv; rcases hv with rfl | rfl | rfl <;> rfl) rfl (by decide) (by decide) ?_
    intro qa ca γa ta a1 a2 a3
    have wta : Wf ta := a2.wf wt9
    have ea := a2.le
    have pa6 := (p7'.kp wt7 K79 id).kp wt9 a2 (by omega)
    refine run1 ?_
    refine Wd.st rfl rfl rfl rfl rfl rfl rfl (by intro v hv; rw [List.mem_singleton] at hv; rw [hv]; rfl) pa6 (show 0 + 2 + 1 ≤ 3 by decide) fun tb pb mb gb => ?_
    have pb' : Rw tb b6 [.bool true, .slice none 0 0, .slice qa 2 ca] b6 := pb
    have hγa : t.nx < γa ∧ γa < ta.nx ∧ γa ≠ b5 ∧ γa ≠ b6 := by
     have := a1.ltq wta (by
      rintro rfl
      rcases a1.at' with ⟨_, h, _⟩ | ⟨_, _, h, _⟩ <;> cases h)
     rcases a3 with h | ⟨h, _⟩ <;> omega
    refine run1 ?_
    refine meet.n (tb, qa, ca, γa) ⟨?_, ?_, ?_, 2, [[.bool false, .slice qk x.k.length ck, .slice none 0 0], [.bool false, .slice qv x.v.length cv, .slice none 0 0]], pb', (a1.sl.kp wta gb (by omega)), hγa.1, by show γa < tb.nx; omega, hγa.2.2.1, hγa.2.2.2, .inr ⟨rfl, rfl, rfl⟩⟩ (.cons rfl (.cons rfl (.cons rfl (.cons rfl (.cons rfl (.cons rfl .nil)))))) rfl
    ·exact ((Kt7.call K79).app a2 (by omega)).app gb (by omega)
    ·show t7.nx ≤ tb.nx; omega
    ·exact ((p57.kp wt7 K79 id).kp wt9 a2 (by omega)).kp wta gb (by omega)
  ·rintro ⟨t8, qa, ca, γa⟩ ⟨kt8, n78, p58, n, css', p68, sl8, hγ1, hγ2, hγ3, hγ4, hcase⟩
   simp only at kt8 n78 p58 p68 sl8 hγ1 hγ2 hγ3 hγ4
   dsimp only
   have wt8 : Wf t8 := kt8.wf wt
   have k08 : Kn s t8 := I.kn.call kt8
   have e8 := kt8.le
   have r38 := I.r3.kp wt kt8 id
   have r28 := I.r2.kp wt kt8 id
   have g3' : good (some ⟨b3, 0, none⟩) := good_b
   have l32 : ldq t8 (qadd (some ⟨b3, 0, none⟩) 2) = some (.slice q i c) := r38.f1 rfl
   have l6 := p68.all (n := 3) rfl (by decide)
   refine run1 ?_
   refine mkO (cs := [.bool true, .slice none 0 0, .slice qa n ca]) fun t9 p9 m9 g9 => ?_
   have wt9 : Wf t9 := g9.wf wt8
   have kt9 : Kn t t9 := kt8.call g9
   have e9 := g9.le
   have hnx7' : t7.nx ≤ t8.nx := n78
   obtain ⟨γ0, hgw, hγn, hγs, hγ2', hγ3', hγ4', hγ6, hit⟩ : ∃ γ0, Gw t9 q i c 3 css.flatten γ0 ∧ γ0 < t8.nx ∧ s.nx ≤ γ0 ∧ γ0 ≠ b2 ∧ γ0 ≠ b3 ∧ γ0 ≠ γa ∧ γ0 ≠ b6 ∧ ∀ (j : Nat) (y : List Value) (x : Ch), css[j]? = some y → xs[j]? = some x → FmK t9 (fun c => c = γ0 ∨ c = b2 ∨ c = b3) 2 y (chf x) := by
    rcases I.st with ⟨rfl, rfl⟩ | ⟨c1, c2, c3, c4⟩
    ·have hb2t := (I.r2.lt wt).1
     have hb3t := (I.r3.lt wt).1
     have hcs : css = [] := List.eq_nil_of_length_eq_zero I.len
     subst hcs
     have hc0 : c = 0 := by
      rcases I.gw.at' with ⟨_, _, h⟩ | ⟨_, _, h, _⟩
      ·exact h
      ·cases h
     subst hc0
     exact ⟨b5, .nil, by omega, by omega, by omega, by omega, by omega, by omega, fun j y x hy => by simp at hy⟩
    ·exact ⟨γ, I.gw.kp wt kt9 id, by omega, c1, c3, c4, by omega, by omega, fun j y x hy hx => (I.it j y x hy hx).step (kt9.w) fun c hc => .inl hc⟩
   refine Wo.app rfl rfl rfl rfl rfl rfl rfl rfl rfl wt9 hgw rfl (cells_at (k := 1) (size := 3) p9.ats rfl (by decide)) rfl (by intro v hv; simp at hv; rcases hv with rfl | rfl | rfl <;> rfl) rfl (by omega) (by omega) ?_
   intro qn cn γn ta a1 a2 a3
   have wta : Wf ta := a2.wf wt9
   have ea := a2.le
   have ra3 := (r38.kp wt8 g9 id).kp wt9 a2 (fun h => hγ3' h.symm)
   have ra2 := (r28.kp wt8 g9 id).kp wt9 a2 (fun h => hγ2' h.symm)
   refine run1 ?_
   refine Wo.st rfl rfl rfl rfl rfl rfl rfl (by intro v hv; rw [List.mem_singleton] at hv; rw [hv]; rfl) ra3 (show 0 + 2 + 1 ≤ 3 by decide) fun tb pb mb gb => ?_
   have pb' : Rw tb b3 [.bool true, .slice none 0 0, .slice qn (i + 1) cn] b3 := pb
   have hb3s := (I.r3.lt wt).1
   have hb2s := (I.r2.lt wt).1
   have hγa : γn < ta.nx := by
    refine a1.ltq wta ?_
    rintro rfl
    rcases a1.at' with ⟨_, h, _⟩ | ⟨_, _, h, _⟩ <;> cases h
   have hγn' : γn = γ0 ∨ t9.nx ≤ γn := by rcases a3 with h | ⟨h, _⟩ <;> omega
   have hne3 : b3 ≠ γn := by omega
   refine run1 ?_
   refine rnd.n (i + 1, tb) ⟨hi, qn, cn, γn, css ++ [[.bool true, .slice none 0 0, .slice qa n ca]], ?_⟩ (by show xs.length - (i + 1) < xs.length - i; omega) (.cons rfl (.cons rfl (.cons rfl (.cons rfl (.cons rfl .nil))))) rfl rfl
   have h23 : b2 ≠ b3 := by omega
   have up : ∀ {y : List Value} {F : List Nat}, FmK t9 (fun c => c = γ0 ∨ c = b2 ∨ c = b3) 2 y F → FmK tb (fun c => c = γn ∨ c = b2 ∨ c = b3) 2 y F := fun hf =>
    (hf.step (C' := fun c => c = γn ∨ c = b2 ∨ c = b3) (a2.mono fun c h => .inl (.inl h)) fun c hc => by rcases hc with rfl | hc; (· rcases hγn' with h | h; (· exact .inl (.inl h)); exact .inr h); exact .inl (.inr hc)).step (gb.mono fun c h => .inl (.inr (.inr h))) fun c hc => .inl hc
   refine ⟨ra2.kp wta gb h23, pb', ((I.kn.call kt9).app a2 hγs).app gb (by omega), by rw [List.length_append, I.len]; rfl, fun y hy => ?_, ?_, .inr ⟨by omega, by show γn < tb.nx; omega, by omega, by omega⟩, fun j y x' hy hx' => ?_⟩
   ·rcases List.mem_append.1 hy with hy | hy
    ·exact I.l3 y hy
    ·rw [List.mem_singleton] at hy; rw [hy]; rfl
   ·rw [List.flatten_append]
    exact a1.kp wta gb (fun h => hne3 h.symm)
   ·by_cases hj : j < i
    ·rw [List.getElem?_append_left (by rw [I.len]; exact hj)] at hy
     exact up (hit j y x' hy hx')
    ·have hj' : j = i := by
      have := (List.getElem?_eq_some_iff.1 hy).1
      rw [List.length_append, I.len] at this
      have h1 : ([[.bool true, .slice none 0 0, .slice qa n ca]] : List (List Value)).length = 1 := rfl
      omega
     subst hj'
     rw [List.getElem?_append_right (by rw [I.len]; exact Nat.le_refl _), I.len, Nat.sub_self] at hy
     obtain rfl : [.bool true, .slice none 0 0, .slice qa n ca] = y := Option.some.inj hy
     obtain rfl : x = x' := by rw [List.getElem?_eq_getElem hi] at hx'; exact ex.trans (Option.some.inj hx')
     refine up ?_
     obtain ⟨γk, sk, lk'⟩ := bk1.sl
     obtain ⟨γv, sv, lv'⟩ := bv1.sl
     have lk0 := lk' w0
     have lv0 := lv' w0
     have fk : FmK t8 (fun c => c = γ0 ∨ c = b2 ∨ c = b3) 1 [.bool false, .slice qk x.k.length ck, .slice none 0 0] (fS x.k) := fm_str wt8 (sk.kp w0 k08 id) (by omega) (by omega) (by omega)
     have fv : FmK t8 (fun c => c = γ0 ∨ c = b2 ∨ c = b3) 1 [.bool false, .slice qv x.v.length cv, .slice none 0 0] (fS x.v) := fm_str wt8 (sv.kp w0 k08 id) (by omega) (by omega) (by omega)
     refine FmK.step (s := t8) (C := fun c => c = γ0 ∨ c = b2 ∨ c = b3) ?_ (g9.w) fun c hc => .inl hc
     rcases hcase with ⟨hg, rfl, rfl⟩ | ⟨hg, rfl, rfl⟩
     ·have := fm_lst (C := fun c => c = γ0 ∨ c = b2 ∨ c = b3) (c := ca) (Fs := [fS x.k]) wt8 sl8 (by omega) hγ2 rfl rfl (show 1 < 2 ^ 40 by decide) (fun y hy => by rw [List.mem_singleton] at hy; rw [hy]; rfl) (fun j y G hy hG => by
       cases j with
       | zero => cases hy; cases hG; exact fk
       | succ j => cases hy)
      rw [show [fS x.k].flatten = chi x by simp [chi, hg]] at this
      exact this
     ·have := fm_lst (C := fun c => c = γ0 ∨ c = b2 ∨ c = b3) (c := ca) (Fs := [fS x.k, fS x.v]) wt8 sl8 (by omega) hγ2 rfl rfl (show 2 < 2 ^ 40 by decide) (fun y hy => by simp at hy; rcases hy with rfl | rfl <;> rfl) (fun j y G hy hG => by
       match j with
       | 0 => cases hy; cases hG; exact fk
       | 1 => cases hy; cases hG; exact fv
       | j + 2 => cases hy)
      rw [show [fS x.k, fS x.v].flatten = chi x by simp [chi, hg]] at this
      exact this
 ·have hie : i = xs.length := by omega
  subst hie
  have l3 := I.r3.all (n := 3) rfl (by decide)
  refine run1 ?_
  refine Wo.st rfl rfl rfl rfl rfl rfl rfl (by intro v hv; simp at hv; rcases hv with rfl | rfl | rfl <;> rfl) I.r2 (by decide) fun t1 p1 m1 g1 => ?_
  have p1' : Rw t1 b2 [.bool true, .slice none 0 0, .slice q xs.length c] b2 := p1
  refine run1 ?_
  have hcl := cell_at (B := B) (t := 94) rfl rfl p1' rfl rfl
  have hb3t := (I.r3.lt wt).1
  obtain ⟨γ', sl', hn1, hn2⟩ : ∃ γ', Sl t q css.flatten γ' ∧ γ' ≠ b2 ∧ γ' < t.nx := by
   rcases I.st with ⟨h0, rfl⟩ | ⟨c1, c2, c3, c4⟩
   ·have hcs : css = [] := List.eq_nil_of_length_eq_zero (I.len.trans h0)
    subst hcs
    exact ⟨b3, .inl ⟨rfl, .inl rfl⟩, by omega, hb3t⟩
   ·exact ⟨γ, I.gw.sl, c3, c2⟩
  have fin := fm_lst (C := fun c => c = b2) (d := 2) (c := c) (Fs := xs.map chf) (n := xs.length) wt sl' hn1 hn2 (by rw [List.length_map]) (by rw [List.length_map, I.len]) (by rw [List.length_map]; omega) I.l3 (fun j y G hy hG => by
   rw [List.getElem?_map] at hG
   cases hx : xs[j]? with
   | none => rw [hx] at hG; cases hG
   | some x =>
    rw [hx] at hG
    cases hG
    exact (I.it j y x hy hx).step .refl fun c hc => .inl (.inr (.inl hc)))
  rw [show (xs.map chf).flatten = xs.flatMap chf from (List.flatMap_def ..).symm] at fin
  refine Lv.ret (vs := [.agg ⟨[.bool true, .slice none 0 0, .slice q xs.length c]⟩]) ?_ ⟨q, c, rfl, fin t1 (g1.mono fun c h => .inl h), I.kn.app g1 (by omega)⟩
  show (match cell1 B.P (.pointer (some ⟨b2, 0, none⟩)) 94 t1, some [] with | some v, some vs => some (v :: vs) | _, _ => none) = _
  rw [hcl]
open Go Go.Ev Go.Sy
set_option maxRecDepth 100000
variable {s : St} {q r : Option Addr} {c d : Nat} {M N : List Nat}
theorem roomy_ok (w : Wf s) (ha : Bs s q M) (hA : M.length < 2 ^ 47 - 1024) :
  Cl B (.call 20 [.slice q M.length c]) s fun v s' => ∃ b c' γ, v = .slice (some ⟨b, 0, none⟩) M.length c' ∧ Rw s' b ((M ++ [77, 78, 79]).map nB) γ ∧ (c' = least (M.length + 3) 1 ∨ c' = sure (M.length + 3)) ∧ Kn s s' ∧ s.nx ≤ γ := by
 refine Cl.enter Tryz.f20 fn20 rfl rfl rfl ?_
 refine run1 ?_
 refine Wo.app rfl rfl rfl rfl rfl rfl rfl rfl rfl (mkRow_wf w) (Gw.mk0 rfl) rfl (ha.kn w mkRow_kn).cells (by simp) one_nB rfl (by omega) (by omega) ?_
 intro q' c' γ' s' h1 h2 h3
 have k1 : Kn s s' := Kn.app mkRow_kn h2 (Nat.le_refl _)
 have w1 := k1.wf w
 have g1 : s.nx ≤ γ' := by
  rcases h3 with h | ⟨h, _⟩
  ·exact Nat.le_of_eq h.symm
  ·rw [h]; exact Nat.le_succ _
 refine run1 ?_
 refine Wo.app rfl rfl rfl rfl rfl rfl rfl rfl rfl (mkRow_wf w1) (h1.kp w1 (mkRow_kn (cs := [nB 77, nB 78, nB 79])) id) rfl (cells_at mkRow_sl.at rfl (by decide)) rfl (by intro v hv; exact one_nB (A := [77, 78, 79]) v hv) rfl (by omega) (by omega) ?_
 intro q2 c2 γ2 s2 j1 j2 j3
 have k2 : Kn s s2 := Kn.app (k1.trans mkRow_kn) j2 g1
 have e : (0 + M.length + 3) = M.length + 3 := by omega
 rw [e] at j1 ⊢
 have j1' : Gw s2 q2 (M.length + 3) c2 1 (M.map nB ++ [nB 77, nB 78, nB 79]) γ2 := j1
 obtain ⟨b, rfl, hr, hcap⟩ := j1'.rw (by omega)
 obtain ⟨hc1, hc2⟩ := cap_ok hcap (by omega)
 refine run1 ?_
 refine Wo.val rfl (Xv.sl0 rfl rfl rfl rfl (by omega) hc2) rfl ?_
 refine run1 ?_
 refine Lv.ret rfl ⟨b, c2, γ2, rfl, by rw [List.map_append]; exact hr, hcap, k2, ?_⟩
 rcases j3 with h | ⟨h, _⟩
 ·rw [h]; exact g1
 ·rw [h]; exact Nat.le_trans k1.le (Nat.le_succ _)
open Go Go.Ev Go.RowKit
set_option maxRecDepth 1000000 in
theorem whole : isT (run Tryz.prog Dg.hooks 400 (.call 5 []) (.mk (tables Dg.tabs) 1000 .nil)) = true := by kernel_rfl
open Go Go.Ev Go.Sy Go.RowKit
set_option maxRecDepth 100000
theorem hasT_mem : ∀ {l : List (Nat × List Value)} {s : St}, hasT s l = true → ∀ p ∈ l, readAt s p.1 0 p.2.length = some p.2 ∨ p.2 = []
 | [], _, _, p, hp => by cases hp
 | (g, t) :: r, s, h, p, hp => by
  have h' : (sameL (match readAt s g 0 t.length with | some cs => cs | none => []) t && hasT s r) = true := h
  simp only [Bool.and_eq_true] at h'
  rcases List.mem_cons.1 hp with rfl | hp
  ·have e := sameL_eq h'.1
   cases hr : readAt s g 0 t.length with
   | none => rw [hr] at e; exact .inr e.symm
   | some cs => rw [hr] at e; exact .inl (congrArg some e)
  ·exact hasT_mem h'.2 p hp
theorem fixK_ok {N : Nat} : HookOk N Tryz.prog fixK := by
 intro f g hf args args' s s' v E w h ha hx
 unfold fixK at hf
 cases h1 : Nat.beq f 5 with
 | false => rw [h1] at hf; exact (insK_ok Dg.hooks_ok) hf h ha hx
 | true =>
  rw [h1] at hf
  cases hf
  obtain rfl := Nat.eq_of_beq_eq_true h1
  unfold fixH at hx
  split at hx
  case h_2 => cases hx
  cases hT : hasT s Dg.tabs with
  | false => rw [hT] at hx; cases hx
  | true =>
   rw [hT] at hx
   cases hx
   cases ha
   have ht : ∀ p ∈ Dg.tabs, p.1 < 1000 ∧ ∃ c t fr, w.heap[p.1]? = some (.cells c t fr) ∧ ∀ (i : Nat) (v : Value), p.2[i]? = some v → c[i]? = some v ∧ plain 1 v = true := fun p hp => by
    have hlt : p.1 < 1000 := (show ∀ p ∈ Dg.tabs, p.1 < 1000 by decide) p hp
    have hpl : ∀ v ∈ p.2, plain 1 v = true := fun v hv => List.all_eq_true.1 (List.all_eq_true.1 (show (Dg.tabs.all fun p => p.2.all (plain 1)) = true by kernel_rfl) p hp) v hv
    have hne : p.2 ≠ [] := fun e => by
     have : (Dg.tabs.all fun p => !p.2.isEmpty) = true := by kernel_rfl
     have := List.all_eq_true.1 this p hp
     rw [e] at this; cases this
    have hr := (hasT_mem hT p hp).resolve_right hne
    obtain ⟨t', j1, j2⟩ := readAt_cell Tryz.prog h.obs hr
    have e3 : t' = p.2 := VRs.plain_eq (p := plain 1) (fun v v' => plain_eq 1 v v') _ _ (List.all_eq_true.2 hpl) j1
    subst e3
    obtain ⟨i1, i2⟩ := h.base p.1 hlt
    rw [i1, i2] at j2
    have h0 : ∃ v0, p.2[0]? = some v0 := ⟨p.2[0]'(List.length_pos_iff.2 hne), List.getElem?_eq_getElem _⟩
    obtain ⟨v0, hv0⟩ := h0
    have hc0 := j2 0 v0 hv0
    unfold World.cell? at hc0
    split at hc0
    case h_2 => cases hc0
    rename_i c t fr hw
    refine ⟨hlt, c, t, fr, hw, fun i v hv => ⟨?_, hpl v (List.mem_of_getElem? hv)⟩⟩
    have hc := j2 i v hv
    unfold World.cell? at hc
    simp only at hw hc
    rw [hw] at hc
    simpa using hc
   refine (closed Dg.mixed Dg.hooks_ok ht whole).mono fun e w' ⟨he, hb⟩ => ⟨E, _, he, .bool _, stp_below h hb⟩
theorem TabAt.has {s : St} (h : TabAt s) : hasT s Dg.tabs = true := by
 have key : ∀ l : List (Nat × List Value), (∀ p ∈ l, At s (some ⟨p.1, 0, none⟩) p.2) → (l.all fun p => sameL p.2 p.2) = true → hasT s l = true := fun l => by
  induction l with
  | nil => intro _ _; rfl
  | cons p l ih =>
   intro h hs
   obtain ⟨g, t⟩ := p
   have hs' : (sameL t t && l.all fun p => sameL p.2 p.2) = true := hs
   simp only [Bool.and_eq_true] at hs'
   have h1 := h (g, t) List.mem_cons_self
   show (sameL (match readAt s g 0 t.length with | some cs => cs | none => []) t && hasT s l) = true
   rw [ih (fun q hq => h q (List.mem_cons_of_mem _ hq)) hs'.2, Bool.and_true]
   rcases h1 with ⟨_, h1⟩ | ⟨b, o, h1, h2⟩
   ·rcases h1 with h1 | ⟨_, _, _, h1⟩ <;> cases h1
   ·cases h1; rw [show readAt s g 0 t.length = some t from h2]; exact hs'.1
 exact key _ h (by kernel_rfl)
theorem fixed_ok {s : St} (h : TabAt s) : Cl B (.call 5 []) s fun v s' => v = .bool true ∧ s' = s :=
 Cl.hook (g := fixH) rfl (by show cond (hasT s Dg.tabs) _ _ = _; rw [h.has]; rfl) ⟨rfl, rfl⟩
open Go Go.Ev Go.Sy
set_option maxRecDepth 100000
variable {s : St} {q r : Option Addr} {c d : Nat} {M N : List Nat}
def mrk (i : Nat) : Nat := (i + 1) % 256
def mkd (L : Nat → List Nat) (i j t : Nat) : List Nat := if t < i then List.replicate (L t).length (mrk t) else if t = i then List.replicate j (mrk i) ++ (L i).drop j else L t
end Go.Proofs.YtglilbadldocoaaGreatDoor
