import Derived.Test.YtglilbadldocoaaGreatDoorDczz
import Derived.Test.YtglilbadldocoaaGreatDoorMbzz
import Derived.Test.YtglilbadldocoaaGreatDoorDg2zz
namespace Go.Sy
open Go Go.Ev
end Go.Sy
namespace Go.Proofs.YtglilbadldocoaaGreatDoor
open Go Go.Ev Go.Sy
set_option maxRecDepth 100000
variable {s : St} {n c : Nat} {q : Option Addr} {M A : List Nat}
def lb (n i : Nat) : Nat := ((8 * n) >>> (56 - 8 * i)) % 256
def sb (w : W8) (i : Nat) : Nat := ((wl w).getD (i / 4) 0 >>> (24 - 8 * (i % 4))) % 256
end Go.Proofs.YtglilbadldocoaaGreatDoor
namespace Go.Sy
open Go Go.Ev
theorem Xv.buildA {X : Fx} {env : Env} {s : St} {t t0 n0 n e t1 size : Nat} {z cs : List Value} {ke : Sh} {z1 : Option (List Value)} {ps : Array (Nat × Operand)} (ht : tk X.B.T t = some ⟨t0, n0, .ar n e, some z⟩) (he : tk X.B.T e = some ⟨t1, size, ke, z1⟩) (hp0 : fillN (fun i => some (Nat.mul i size, size)) env ps.toList z = some cs) : Xv X (.build t ps) env s (.agg ⟨cs⟩) s := fun tm hf => by
 have hp := fillN_eq hp0
 obtain ⟨h1, _, _, _⟩ := X.B.zr ht
 show xBuild X.P t ps.toList tm s = _
 unfold xBuild
 simp only [show zeroCs X.P t = some z from h1, show X.P.underlying t = _ from X.B.un ht, show sizeOfT X.P e = _ from X.B.sz he]
 rw [fillE_ok (fun _ _ h => h) hf hp]; rfl
end Go.Sy
namespace Go.Proofs.YtglilbadldocoaaGreatDoor
open Go Go.Ev Go.Sy
set_option maxRecDepth 100000
variable {s s0 : St} {p γ δ n c m N d : Nat} {q : Option Addr} {A D F : List Nat} {L cs : List Value}
def fh (n : Nat) : List Nat := [202, (n >>> 16) % 256, (n >>> 8) % 256, n % 256, ((n >>> 16) % 256 ^^^ 255) % 256, ((n >>> 8) % 256 ^^^ 255) % 256, (n % 256 ^^^ 255) % 256]
theorem headOf_ok (_w0 : Wf s) (_hn : n < 2 ^ 40) : Cl B (.call 40 [nI n]) s fun v s' => v = .agg ⟨(fh n).map nB⟩ ∧ Kn s s' := by
 refine Cl.enter Tryz.f40 fn40 rfl rfl rfl ?_
 refine run1 ?_
 refine Wo.val rfl (Xv.buildA (cs := (fh n).map nB) rfl rfl rfl) rfl ?_
 obtain ⟨H, hH⟩ : ∃ H, H = fh n := ⟨_, rfl⟩
 have hl : H.length = 7 := by rw [hH]; rfl
 rw [← hH]
 refine mkO (cs := (List.replicate 7 0).map nB) fun s1 r1 n1 k1 => ?_
 refine Wo.st rfl rfl rfl rfl rfl rfl (by rw [List.length_map, hl]) one_nB r1 (by decide) fun s2 r2 n2 k2 => ?_
 rw [lov_all (by rw [List.length_map, hl]; rfl)] at r2
 refine run1 ?_
 have hcl := cell_at (B := B) (t := 100) (n := 7) (k := .ar 7 5) rfl rfl r2 (by rw [List.length_map, hl]) rfl
 refine Lv.ret (vs := [.agg ⟨H.map nB⟩]) ?_ ⟨rfl, k1.app k2 (Nat.le_refl _)⟩
 show (match cell1 B.P (.pointer (some ⟨s.nx, 0, none⟩)) 100 s2, some [] with | some v, some vs => some (v :: vs) | _, _ => none) = _
 rw [hcl]
def fw (A : List Nat) : List Nat := fh A.length ++ A
theorem wrap_ok (w0 : Wf s) (ha : At s q (A.map nB)) (hA : A.length ≤ 16384) : Cl B (.call 19 [.slice q A.length c]) s fun v s' => ∃ b, v = .tuple ⟨[.slice (some ⟨b, 0, none⟩) (fw A).length (sure (fw A).length), nI 0]⟩ ∧ s.nx ≤ b ∧ Rw s' b ((fw A).map nB) b ∧ Kn s s' := by
 refine Cl.enter Tryz.f19 fn19 rfl rfl rfl ?_
 have h0 : ¬ 16384 < A.length := by omega
 refine run1 ?_
 refine Wo.call rfl (Xc.call ok40 rfl) rfl ((headOf_ok w0 (by omega)).mono ?_)
 rintro v s1 ⟨rfl, k1⟩
 have w1 : Wf s1 := k1.wf w0
 obtain ⟨H, hH⟩ : ∃ H, H = fh A.length := ⟨_, rfl⟩
 have hl : H.length = 7 := by rw [hH]; rfl
 have hfw : fw A = H ++ A := by rw [fw, hH]
 have hfl : (fw A).length = 7 + A.length := by rw [hfw, List.length_append, hl]
 rw [← hH]
 refine run1 ?_
 refine mkO (cs := (List.replicate 7 0).map nB) fun s2 r2 n2 k2 => ?_
 have w2 : Wf s2 := k2.wf w1
 refine Wo.st rfl rfl rfl rfl rfl rfl (by rw [List.length_map, hl]) one_nB r2 (by decide) fun s3 r3 n3 k3 => ?_
 rw [lov_all (by rw [List.length_map, hl]; rfl)] at r3
 have k13 : Kn s1 s3 := k2.app k3 (Nat.le_refl _)
 have w3 : Wf s3 := k13.wf w1
 refine run1 ?_
 refine Wo.val rfl (Xv.make rfl rfl rfl rfl rfl (Nat.zero_le _) rfl (by omega) (by omega)) rfl ?_
 refine mk_gen (M := fun s' => Wo _ _ _ _ _ s' _) fun s4 r4 n4 k4 => ?_
 have r4' : Rw s4 s3.nx ((List.replicate (7 + A.length) 0).map nB) s3.nx := by
  rw [← rep_flat]; exact r4
 have w4 : Wf s4 := k4.wf w3
 refine run1 ?_
 refine Wo.val rfl (Xv.slP (b := s1.nx) (o := 0) rfl rfl rfl (by decide)).1 rfl (run1 ?_)
 have r34 := r3.kp w3 k4 id
 refine Wo.appc rfl rfl rfl rfl rfl rfl rfl rfl r4' rfl (cells_at (k := 7) (size := 1) r34.ats (by rw [List.length_map, hl]) (by decide)) (by rw [List.length_map, hl]) one_nB rfl (by omega) (by omega) (by omega) (by rw [List.length_map, List.length_replicate]; omega) ?_
 intro s5 r5 n5 k5
 have e5 : lov ((List.replicate (7 + A.length) 0).map nB) (0 * 1) (H.map nB) = H.map nB ++ ((List.replicate A.length 0).map nB ++ []) := by
  have := lov_app (a := []) (b := (List.replicate 7 0).map nB) (c := (List.replicate A.length 0).map nB) (vs := H.map nB) (o := 0) rfl (by rw [List.length_map, hl]; rfl)
  rw [List.nil_append, ← List.map_append, List.replicate_append_replicate, List.nil_append] at this
  rw [List.append_nil]; exact this
 rw [e5] at r5
 have w5 : Wf s5 := k5.wf w4
 have k15 : Kn s1 s5 := (k13.call k4).app k5 k13.le
 have k05 : Kn s s5 := k1.call k15
 refine run1 ?_
 refine Wo.appc (n := 7) rfl rfl rfl rfl rfl rfl rfl rfl r5 rfl (cells_at (k := A.length) (size := 1) (ha.kn w0 k05) (by rw [List.length_map, Nat.mul_one]) (by decide)) (by rw [List.length_map, Nat.mul_one]) one_nB rfl (by omega) (by omega) (by omega) (by rw [List.length_append, List.length_append, List.length_map, List.length_map, List.length_replicate, hl]; show (7 + A.length) * 1 ≤ 7 + (A.length + 0); omega) ?_
 intro s6 r6 n6 k6
 rw [lov_app (a := H.map nB) (o := 7 * 1) (by rw [List.length_map, hl]) (by rw [List.length_map, List.length_map, List.length_replicate]), List.append_nil, ← List.map_append, ← hfw] at r6
 refine run1 ?_
 refine Lv.ret rfl ⟨s3.nx, ?_, Nat.le_trans k1.le k13.le, r6, k05.app k6 (Nat.le_trans k1.le k13.le)⟩
 rw [hfl]; rfl
theorem listOf_ok (_w0 : Wf s) : Cl B (.call 33 [.slice q n c]) s fun v s' => v = .agg ⟨[.bool true, .slice none 0 0, .slice q n c]⟩ ∧ Kn s s' := by
 refine Cl.enter Tryz.f33 fn33 rfl rfl rfl ?_
 refine run1 ?_
 refine mkO (cs := z3) fun s1 r1 n1 k1 => ?_
 refine Wo.st rfl rfl rfl rfl rfl rfl rfl (by intro v hv; simp at hv; rcases hv with rfl | rfl | rfl <;> rfl) r1 (by decide) fun s3 r3 n3 k3 => ?_
 have r3' : Rw s3 s.nx [.bool true, .slice none 0 0, .slice q n c] s.nx := r3
 refine run1 ?_
 have hcl := cell_at (B := B) (t := 94) rfl rfl r3' rfl rfl
 refine Lv.ret (vs := [.agg ⟨[.bool true, .slice none 0 0, .slice q n c]⟩]) ?_ ⟨rfl, k1.app k3 (Nat.le_refl _)⟩
 show (match cell1 B.P (.pointer (some ⟨s.nx, 0, none⟩)) 94 s3, some [] with | some v, some vs => some (v :: vs) | _, _ => none) = _
 rw [hcl]
theorem stringItem_ok (_w0 : Wf s) : Cl B (.call 35 [.slice q n c]) s fun v s' => v = .agg ⟨[.bool false, .slice q n c, .slice none 0 0]⟩ ∧ Kn s s' := by
 refine Cl.enter Tryz.f35 fn35 rfl rfl rfl ?_
 refine run1 ?_
 refine mkO (cs := z3) fun s1 r1 n1 k1 => ?_
 refine Wo.st rfl rfl rfl rfl rfl rfl rfl (by intro v hv; simp at hv; rcases hv with rfl | rfl | rfl <;> rfl) r1 (by decide) fun s3 r3 n3 k3 => ?_
 have r3' : Rw s3 s.nx [.bool false, .slice q n c, .slice none 0 0] s.nx := r3
 refine run1 ?_
 have hcl := cell_at (B := B) (t := 94) rfl rfl r3' rfl rfl
 refine Lv.ret (vs := [.agg ⟨[.bool false, .slice q n c, .slice none 0 0]⟩]) ?_ ⟨rfl, k1.app k3 (Nat.le_refl _)⟩
 show (match cell1 B.P (.pointer (some ⟨s.nx, 0, none⟩)) 94 s3, some [] with | some v, some vs => some (v :: vs) | _, _ => none) = _
 rw [hcl]
theorem numItem_ok (w0 : Wf s) (hn : n < 2 ^ 62) : Cl B (.call 34 [nI n]) s fun v s' => ∃ b, v = .agg ⟨[.bool false, .slice (some ⟨b, 0, none⟩) (dgs n).length (sure (dgs n).length), .slice none 0 0]⟩ ∧ s.nx ≤ b ∧ Rw s' b ((dgs n).map nB) b ∧ Kn s s' := by
 refine Cl.enter Tryz.f34 fn34 rfl rfl rfl ?_
 refine run1 ?_
 refine mkO (cs := z3) fun s1 r1 n1 k1 => ?_
 have w1 : Wf s1 := k1.wf w0
 refine Wo.call rfl (Xc.call ok56 rfl) rfl ((number_ok w1 hn).mono ?_)
 rintro v s2 ⟨b, rfl, hb, r2, k2⟩
 have w2 : Wf s2 := k2.wf w1
 refine run1 ?_
 refine mkO (cs := z3) fun s3 r3 n3 k3 => ?_
 have w3 : Wf s3 := k3.wf w2
 refine Wo.st rfl rfl rfl rfl rfl rfl rfl (by intro v hv; simp at hv; rcases hv with rfl | rfl | rfl <;> rfl) r3 (by decide) fun s4 r4 n4 k4 => ?_
 have r4' : Rw s4 s2.nx [.bool false, .slice (some ⟨b, 0, none⟩) (dgs n).length (sure (dgs n).length), .slice none 0 0] s2.nx := r4
 have w4 : Wf s4 := k4.wf w3
 have l4 := r4'.all (n := 3) rfl (by decide)
 have k24 : Kn s2 s4 := k3.app k4 (Nat.le_refl _)
 refine run1 ?_
 refine Wo.st rfl rfl rfl rfl rfl rfl rfl (by intro v hv; simp at hv; rcases hv with rfl | rfl | rfl <;> rfl) (r1.kp w1 (k2.call k24) id) (by decide) fun s5 r5 n5 k5 => ?_
 have r5' : Rw s5 s.nx [.bool false, .slice (some ⟨b, 0, none⟩) (dgs n).length (sure (dgs n).length), .slice none 0 0] s.nx := r5
 refine run1 ?_
 have hcl := cell_at (B := B) (t := 94) rfl rfl r5' rfl rfl
 refine Lv.ret (vs := [.agg ⟨[.bool false, .slice (some ⟨b, 0, none⟩) (dgs n).length (sure (dgs n).length), .slice none 0 0]⟩]) ?_ ⟨b, rfl, by omega, (r2.kp w2 k24 id).kp w4 k5 (by omega), (k1.call (k2.call k24)).app k5 (Nat.le_refl _)⟩
 show (match cell1 B.P (.pointer (some ⟨s.nx, 0, none⟩)) 94 s5, some [] with | some v, some vs => some (v :: vs) | _, _ => none) = _
 rw [hcl]
end Go.Proofs.YtglilbadldocoaaGreatDoor
namespace Go.Sy
open Go Go.Ev
end Go.Sy
namespace Go.Proofs.YtglilbadldocoaaGreatDoor
open Go Go.Ev Go.Sy
set_option maxRecDepth 100000
variable {s : St} {n c : Nat} {q : Option Addr} {M A : List Nat}
end Go.Proofs.YtglilbadldocoaaGreatDoor
namespace Go.Sy
open Go Go.Ev
theorem Rw.gw {s : St} {b γ n size : Nat} {cs : List Value} (h : Rw s b cs γ) (hl : cs.length = n * size) : Gw s (some ⟨b, 0, none⟩) n (sure n) size cs γ := by
 obtain ⟨g, h1, h2⟩ := h
 exact ⟨hl, .inr ⟨b, g, rfl, h1, h2, .inr rfl⟩⟩
end Go.Sy
namespace Go.Proofs.YtglilbadldocoaaGreatDoor
open Go Go.Ev Go.Sy
set_option maxRecDepth 100000
variable {s : St} {n c : Nat} {q : Option Addr} {M A S D : List Nat}
end Go.Proofs.YtglilbadldocoaaGreatDoor
namespace Go.Sy
open Go Go.Ev
theorem Wd.app {X : Fx} {env : Env} {df : List Deferred} {s : St} {Q : Post} {all : List Oper} {d : Option Nat} {ty : TypeId} {pos : String} {af : Array Edge} {g : Option (Nat × Bool)} {i m : Nat} {L : List Sp} {past : Past} {x y : Operand} {t u e n0 nu size : Nat} {z0 zu : Option (List Value)} {z : List Value} {t0 t1 tu : Nat} {ke ku : Sh} (hgd : wantsE all env g = some true) (ht : tk X.B.T t = some ⟨t0, n0, .sl e, z0⟩) (he : tk X.B.T e = some ⟨t1, size, ke, some z⟩) (hu : tk X.B.T u = some ⟨tu, nu, ku, zu⟩) (hn : notI ku = true) (h0 : Nat.blt 0 size = true) (hd : dOk X d = true)
  {q : Option Addr} {n c : Nat} {v : Value} {γ k : Nat} {cs new : List Value} (hx : ev env x = some (.slice q n c)) (hy : ev env y = some v) (w : Wf s) (hg : Gw s q n c size cs γ) (hk : lenOfV v = some k) (hv : cellsFrom s size k v = some new) (hl : new.length = k * size) (h1 : ∀ v ∈ new, one v = true) {y0 : Nat} (hV : lkV X.B.V e = some y0) (hr : (5 * (n + k) + 3072) * y0 ≤ 1125899906842624) (hb : n + k ≤ 4611686018427387904)
  (K : ∀ q' c' γ' s', Gw s' q' (n + k) c' size (cs ++ new) γ' → Kp (fun x => x = γ) s s' → (γ' = γ ∨ γ' = s.nx ∧ Kn s s') → Wd X all L ((some i, s') :: past) (up d (.slice q' (n + k) c') env) df s' Q) :
  Wd X all (.mk .acts i ⟨d, .call ⟨.builtin .append, #[x, y], #[t, u]⟩, ty, pos, af, g⟩ m :: L) past env df s Q := by
 obtain ⟨q', c', γ', s', a, b, c1, d1, _⟩ := Xv.app (X := X) (env := env) ht he hu hn h0 hx hy w hg hk hv hl h1 hV hr hb
 exact Wd.act hgd a hd c1.le (K q' c' γ' s' b c1 d1)
end Go.Sy
namespace Go.Proofs.YtglilbadldocoaaGreatDoor
open Go Go.Ev Go.Sy
set_option maxRecDepth 100000
variable {s : St} {n c d : Nat} {q r : Option Addr} {M A S D : List Nat}
def cb1 (l x : Nat) : Nat := if 8 ≤ l then x else if 0 < l then x - x % 2 ^ (8 - l) else 0
open Go Go.Ev Go.Sy
set_option maxRecDepth 100000
variable {s : St} {n c d : Nat} {q r : Option Addr} {M A S D H : List Nat}
def co (H : List Nat) (n i : Nat) : Nat := cb1 (n - 8 * i) (H.getD i 0)
def cl (H : List Nat) (n i : Nat) : List Nat := (List.range i).map (co H n) ++ List.replicate (32 - i) 0
open Go Go.Ev Go.Sy
set_option maxRecDepth 100000
variable {s : St} {n c d : Nat} {q r : Option Addr} {M A S D : List Nat}
def New (s s' : St) (v : Value) (A : List Nat) : Prop := ∃ q c γ, v = .slice q A.length c ∧ Gw s' q A.length c 1 (A.map nB) γ ∧ s.nx ≤ γ ∧ Kn s s'
open Go Go.Ev Go.Sy
set_option maxRecDepth 100000
variable {s : St} {n c d : Nat} {q r : Option Addr} {M A S D : List Nat}
open Go Go.Ev Go.Sy
set_option maxRecDepth 100000
variable {s : St}
abbrev I (z : Int) : Value := .int .i64 z
abbrev KAt (s : St) : Prop := At s (some ⟨1, 0, none⟩) Dg.KN
theorem TabAt.kat (h : TabAt s) : KAt s := h (1, Dg.KN) (by simp [Dg.tabs])
def lookV (k : Int) : List Value := if k = 1 then [I 1, I 0, I 0, .bool true] else if k = 2 then [I 2, I 1, I 32, .bool false] else [I 0, I 0, I 0, .bool false]
theorem lookOf_ok {k : Int} (w0 : Wf s) (hK : KAt s) : Cl B (.call 50 [I k]) s fun v s' => v = .tuple ⟨[.agg ⟨lookV k⟩, .bool (decide (k = 1 ∨ k = 2))]⟩ ∧ Kn s s' := by
 refine Cl.enter Tryz.f50 fn50 rfl rfl rfl ?_
 refine run1 ?_
 refine mk_gen (M := fun s' => Wo _ _ _ _ _ s' _) fun s1 r1 n1 k1 => ?_
 have w1 : Wf s1 := k1.wf w0
 have hl : ldn s1 (some ⟨1, 0, none⟩) 8 = some Dg.KN := (hK.kn w0 k1).ldn (i := 0) (n := 8) (by decide) (by decide)
 refine run1 ?_
 refine W.loop (α := Nat × St) (fun a => [(0, I k), (2, .pointer (some ⟨s.nx, 0, none⟩)), (6, .agg ⟨Dg.KN⟩), (7, nI a.1)]) (fun _ => []) (fun a => a.2)
  (fun a => a.1 ≤ 2 ∧ Rw a.2 s.nx [I 0, I 0, I 0, .bool false] s.nx ∧ Kn s1 a.2 ∧ (1 ≤ a.1 → k ≠ 1) ∧ (2 ≤ a.1 → k ≠ 2)) (fun a => 2 - a.1) (0, s1) ⟨Nat.zero_le _, r1, .refl, by omega, by omega⟩ (.cons rfl (.cons rfl (.cons rfl (.cons rfl .nil)))) rfl rfl (by show 2 - 0 < _; omega) ?_
 rintro ⟨i, t0⟩ ⟨i1, i2, i3, i4, i5⟩
 simp only at i1 i2 i3 i4 i5
 dsimp only
 have wt : Wf t0 := i3.wf w1
 by_cases hi : i < 2
 ·refine run1 ?_
  obtain ⟨e, d1, d2, d3, he, hD, hV⟩ : ∃ (e d1 d2 : Int) (d3 : Bool), e = (i : Int) + 1 ∧ (Dg.KN.drop (i * 4)).take 4 = [I e, I d1, I d2, .bool d3] ∧ lookV e = [I e, I d1, I d2, .bool d3] := by
   obtain rfl | rfl : i = 0 ∨ i = 1 := by omega
   ·exact ⟨1, 0, 0, true, rfl, rfl, rfl⟩
   ·exact ⟨2, 1, 32, false, rfl, rfl, rfl⟩
  refine Wo.val rfl (Xv.ixN rfl rfl rfl rfl rfl hi (by show i * 4 + 4 ≤ 8; omega)) rfl ?_
  rw [hD]
  refine run1 ?_
  refine mk_gen (M := fun s' => Wo _ _ _ _ _ s' _) fun t1 q1 m1 g1 => ?_
  have wt1 : Wf t1 := g1.wf wt
  refine Wo.st rfl rfl rfl rfl rfl rfl rfl (by intro v hv; simp at hv; rcases hv with rfl | rfl | rfl | rfl <;> rfl) q1 (by decide) fun t2 q2 m2 g2 => ?_
  have q2' : Rw t2 t0.nx [I e, I d1, I d2, .bool d3] t0.nx := q2
  have hg : good (some ⟨t0.nx, 0, none⟩) := good_b
  have hl0 : ldq t2 (qadd (some ⟨t0.nx, 0, none⟩) 0) = some (I e) := q2'.f1 rfl
  have l4 : ldn t2 (some ⟨t0.nx, 0, none⟩) 4 = some [I e, I d1, I d2, .bool d3] := q2'.fn (i := 0) (n := 4) (Nat.le_refl _) (by decide)
  have hlt := i2.lt wt
  have i2b : Rw t2 s.nx [I 0, I 0, I 0, .bool false] s.nx := (i2.kp wt g1 id).kp wt1 g2 (by omega)
  have kk : Kn s1 t2 := i3.call (g1.app g2 (Nat.le_refl _))
  refine run1 ?_
  refine W.cond rfl (fun h => ?_) (fun h => ?_)
  ·refine run1 ?_
   refine Wo.st rfl rfl rfl rfl rfl rfl rfl (by intro v hv; simp at hv; rcases hv with rfl | rfl | rfl | rfl <;> rfl) i2b (by decide) fun t3 q3 m3 g3 => ?_
   have q3' : Rw t3 s.nx [I e, I d1, I d2, .bool d3] s.nx := q3
   refine run1 ?_
   have hc := cell_at (B := B) (t := 112) rfl rfl q3' rfl rfl
   obtain rfl : k = e := by omega
   refine Lv.ret (vs := [.agg ⟨[I k, I d1, I d2, .bool d3]⟩, .bool true]) ?_ ⟨?_, (k1.call kk).app g3 (Nat.le_refl _)⟩
   ·show (match cell1 B.P (.pointer (some ⟨s.nx, 0, none⟩)) 112 t3, some [Value.bool true] with | some v, some vs => some (v :: vs) | _, _ => none) = _
    rw [hc]
   ·rw [hV, decide_eq_true (by omega)]; rfl
  ·refine run1 ?_
   exact rnd.n (i + 1, t2) ⟨hi, i2b, kk, by omega, by omega⟩ (by show 2 - (i + 1) < 2 - i; omega) (.cons rfl (.cons rfl (.cons rfl (.cons rfl .nil)))) rfl rfl
 ·refine run1 ?_
  refine Wo.st rfl rfl rfl rfl rfl rfl rfl (by intro v hv; simp at hv; rcases hv with rfl | rfl | rfl | rfl <;> rfl) i2 (by decide) fun t3 q3 m3 g3 => ?_
  have q3' : Rw t3 s.nx [I 0, I 0, I 0, .bool false] s.nx := q3
  refine run1 ?_
  have hc := cell_at (B := B) (t := 112) rfl rfl q3' rfl rfl
  refine Lv.ret (vs := [.agg ⟨[I 0, I 0, I 0, .bool false]⟩, .bool false]) ?_ ⟨?_, (k1.call i3).app g3 (Nat.le_refl _)⟩
  ·show (match cell1 B.P (.pointer (some ⟨s.nx, 0, none⟩)) 112 t3, some [Value.bool false] with | some v, some vs => some (v :: vs) | _, _ => none) = _
   rw [hc]
  ·have h1 := i4 (by omega)
   have h2 := i5 (by omega)
   rw [lookV, if_neg h1, if_neg h2, decide_eq_false (by omega)]; rfl
structure Ch where
 kv : Value
 vv : Value
 k : List Nat
 v : List Nat
 g : Bool
def chc (x : Ch) : List Value := [x.kv, x.vv, .bool x.g]
structure ChOk (s : St) (x : Ch) : Prop where
 hk : BsV s x.kv x.k
 hv : BsV s x.vv x.v
 bk : ∀ y ∈ x.k, y < 256
 bv : ∀ y ∈ x.v, y < 256
theorem ChOk.kn {s s' : St} {x : Ch} (h : ChOk s x) (w : Wf s) (k : Kn s s') : ChOk s' x := ⟨h.hk.kn w k, h.hv.kn w k, h.bk, h.bv⟩
theorem ChOk.one {x : Ch} (h : ChOk s x) : ∀ v ∈ chc x, one v = true := by
 obtain ⟨q, c, e, _⟩ := h.hk
 obtain ⟨q', c', e', _⟩ := h.hv
 intro v hv
 simp only [chc, e, e', List.mem_cons, List.not_mem_nil, or_false] at hv
 rcases hv with rfl | rfl | rfl <;> rfl
def chM (x : Ch) : Prop := x.k.length ≤ 32 ∧ x.v.length ≤ 256 ∧ x.g = decide (x.v.length = 0)
instance {x : Ch} : Decidable (chM x) := by unfold chM; infer_instance
theorem mayStand_ok {x : Ch} (_w0 : Wf s) (h : ChOk s x) : Cl B (.call 51 [.agg ⟨chc x⟩]) s fun v s' => v = .bool (decide (chM x)) ∧ Kn s s' := by
 refine Cl.enter Tryz.f51 fn51 rfl rfl rfl ?_
 obtain ⟨kv, vv, k, v, g⟩ := x
 obtain ⟨⟨q, c, e1, hk1, hk2⟩, ⟨q', c', e2, hv1, hv2⟩, _, _⟩ := h
 simp only at e1 e2 hk1 hk2 hv1 hv2
 subst e1 e2
 refine run1 ?_
 refine mkO (cs := [.slice q k.length c, .slice q' v.length c', .bool g]) fun s1 r1 n1 k1 => ?_
 have gd : good (some ⟨s.nx, 0, none⟩) := good_b
 have l0 : ldq s1 (qadd (some ⟨s.nx, 0, none⟩) 0) = some (.slice q k.length c) := r1.f1 rfl
 have l1 : ldq s1 (qadd (some ⟨s.nx, 0, none⟩) 1) = some (.slice q' v.length c') := r1.f1 rfl
 have l2 : ldq s1 (qadd (some ⟨s.nx, 0, none⟩) 2) = some (.bool g) := r1.f1 rfl
 by_cases h1 : 32 < k.length
 ·refine run1 ?_
  refine Lv.ret rfl ⟨?_, k1⟩
  exact congrArg Value.bool (decide_eq_false fun h => by have : k.length ≤ 32 := h.1; omega).symm
 ·by_cases h2 : 256 < v.length
  ·refine run1 ?_
   refine Lv.ret rfl ⟨?_, k1⟩
   exact congrArg Value.bool (decide_eq_false fun h => by have : v.length ≤ 256 := h.2.1; omega).symm
  ·refine run1 ?_
   refine Wo.val rfl (Xv.eqB rfl rfl rfl) rfl (run1 ?_)
   refine Lv.ret rfl ⟨?_, k1⟩
   refine congrArg Value.bool ?_
   rw [Bool.eq_iff_iff, beq_iff_eq, decide_eq_true_iff]
   exact ⟨fun h => ⟨by show k.length ≤ 32; omega, by show v.length ≤ 256; omega, h⟩, fun h => h.2.2⟩
def rcV (k c q : Int) (P R : List Nat) (x : Value) : List Value := I k :: I c :: I q :: (P.map nB ++ (R.map nB ++ [x]))
theorem rc_len {k c q : Int} {P R : List Nat} {x : Value} (hP : P.length = 32) (hR : R.length = 32) : (rcV k c q P R x).length = 68 := by simp [rcV, hP, hR]
theorem rc_chg {k c q : Int} {P R : List Nat} {x : Value} (hP : P.length = 32) (hR : R.length = 32) : (rcV k c q P R x)[67]? = some x := by
 unfold rcV
 rw [List.getElem?_cons_succ, List.getElem?_cons_succ, List.getElem?_cons_succ, List.getElem?_append_right (by rw [List.length_map]; omega), List.getElem?_append_right (by rw [List.length_map, List.length_map]; omega), List.length_map, List.length_map, hP, hR]; rfl
structure RcOk (s : St) (Q : Option Addr) (xs : List Ch) : Prop where
 at' : At s Q (xs.map chc).flatten
 ok : ∀ x ∈ xs, ChOk s x
 len : xs.length < 2 ^ 42
theorem RcOk.kn {s s' : St} {Q : Option Addr} {xs : List Ch} (h : RcOk s Q xs) (w : Wf s) (k : Kn s s') : RcOk s' Q xs := ⟨h.at'.kn w k, fun x hx => (h.ok x hx).kn w k, h.len⟩
theorem RcOk.kid {Q : Option Addr} {xs : List Ch} (h : RcOk s Q xs) {i : Nat} (hi : i < xs.length) : good Q ∧ ldn s (qadd Q (i * 3)) 3 = some (chc xs[i]) := Go.Proofs.YtglilbadldocoaaGreatDoor.kid h.at' (fun x hx => by obtain ⟨y, _, rfl⟩ := List.mem_map.1 hx; rfl) (by rw [List.getElem?_map, List.getElem?_eq_getElem hi]; rfl)
def mayR (k c q : Int) (xs : List Ch) : Prop := ((k = 1 ∧ 0 ≤ q ∧ xs.length = 0) ∨ (k = 2 ∧ 1 ≤ q ∧ xs.length ≤ 32)) ∧ 1 ≤ c ∧ c ≤ 1099511627776 ∧ q ≤ c ∧ ∀ x ∈ xs, chM x
instance {k c q : Int} {xs : List Ch} : Decidable (mayR k c q xs) := by unfold mayR; infer_instance
set_option maxHeartbeats 1600000 in
theorem jmay_ok {k c q : Int} {P R : List Nat} {Q : Option Addr} {xs : List Ch} {C : Nat} (w0 : Wf s) (hT : TabAt s) (hP : P.length = 32) (hR : R.length = 32) (h : RcOk s Q xs) :
  Cl B (.call 31 [.agg ⟨rcV k c q P R (.slice Q xs.length C)⟩]) s fun v s' => v = .bool (decide (mayR k c q xs)) ∧ Kn s s' := by
 refine Cl.enter Tryz.f31 fn31 rfl rfl rfl ?_
 refine run1 ?_
 refine mkO (cs := rcV k c q P R (.slice Q xs.length C)) fun s1 r1 n1 k1 => ?_
 have w1 : Wf s1 := k1.wf w0
 have gd : good (some ⟨s.nx, 0, none⟩) := good_b
 have l0 : ldq s1 (qadd (some ⟨s.nx, 0, none⟩) 0) = some (I k) := r1.f1 rfl
 refine run1 ?_
 refine Wo.call rfl (Xc.call ok50 rfl) rfl ((lookOf_ok w1 (hT.kat.kn w0 k1)).mono ?_)
 rintro v s3 ⟨rfl, k3⟩
 have w3 : Wf s3 := k3.wf w1
 refine run1 ?_
 obtain ⟨e, d1, d2, d3, hV, hd1⟩ : ∃ (e : Int) (d1 d2 : Nat) (d3 : Bool), lookV k = [I e, nI d1, nI d2, .bool d3] ∧ ((k = 1 ∧ d1 = 0 ∧ d2 = 0) ∨ (k = 2 ∧ d1 = 1 ∧ d2 = 32) ∨ (k ≠ 1 ∧ k ≠ 2)) := by
  by_cases h1 : k = 1
  ·exact ⟨1, 0, 0, true, by rw [lookV, if_pos h1]; rfl, .inl ⟨h1, rfl, rfl⟩⟩
  ·by_cases h2 : k = 2
   ·exact ⟨2, 1, 32, false, by rw [lookV, if_neg h1, if_pos h2]; rfl, .inr (.inl ⟨h2, rfl, rfl⟩)⟩
   ·exact ⟨0, 0, 0, false, by rw [lookV, if_neg h1, if_neg h2]; rfl, .inr (.inr ⟨h1, h2⟩)⟩
 rw [hV]
 refine mkO (cs := [I 0, I 0, I 0, .bool false]) fun s4 q4 m4 k4 => ?_
 have w4 : Wf s4 := k4.wf w3
 refine Wo.st rfl rfl rfl rfl rfl rfl rfl (by intro v hv; simp at hv; rcases hv with rfl | rfl | rfl | rfl <;> rfl) q4 (by decide) fun s5 q5 m5 k5 => ?_
 have q5' : Rw s5 s3.nx [I e, nI d1, nI d2, .bool d3] s3.nx := q5
 have k15 : Kn s1 s5 := k3.call (k4.app k5 (Nat.le_refl _))
 have w5 : Wf s5 := k15.wf w1
 have k05 : Kn s s5 := k1.call k15
 have g5 : good (some ⟨s3.nx, 0, none⟩) := good_b
 have r5 := r1.kp w1 k15 id
 have a1 : ldq s5 (qadd (some ⟨s.nx, 0, none⟩) 1) = some (I c) := r5.f1 rfl
 have a2 : ldq s5 (qadd (some ⟨s.nx, 0, none⟩) 2) = some (I q) := r5.f1 rfl
 have a5 : ldq s5 (qadd (some ⟨s.nx, 0, none⟩) 67) = some (.slice Q xs.length C) := r5.f1 (rc_chg hP hR)
 have f1 : ldq s5 (qadd (some ⟨s3.nx, 0, none⟩) 1) = some (nI d1) := q5'.f1 rfl
 have f2 : ldq s5 (qadd (some ⟨s3.nx, 0, none⟩) 2) = some (nI d2) := q5'.f1 rfl
 have hno : ¬ mayR k c q xs → Value.bool false = .bool (decide (mayR k c q xs)) := fun h => congrArg Value.bool (decide_eq_false h).symm
 by_cases hk : k = 1 ∨ k = 2
 ·by_cases hc1 : c < 1
  ·refine run1 ?_
   exact Lv.ret rfl ⟨hno fun h => by have := h.2.1; omega, k05⟩
  ·by_cases hc2 : (1099511627776 : Int) < c
   ·refine run1 ?_
    exact Lv.ret rfl ⟨hno fun h => by have := h.2.2.1; omega, k05⟩
   ·by_cases hq1 : q < (d1 : Int)
    ·refine run1 ?_
     refine Lv.ret rfl ⟨hno fun h => ?_, k05⟩
     rcases h.1 with ⟨h1, h2, _⟩ | ⟨h1, h2, _⟩ <;> omega
    ·by_cases hq2 : c < q
     ·refine run1 ?_
      exact Lv.ret rfl ⟨hno fun h => by have := h.2.2.2.1; omega, k05⟩
     ·by_cases hx : d2 < xs.length
      ·refine run1 ?_
       refine Lv.ret rfl ⟨hno fun h => ?_, k05⟩
       rcases h.1 with ⟨h1, _, h2⟩ | ⟨h1, _, h2⟩ <;> omega
      ·refine run1 ?_
       refine W.loop (α := Nat × St) (fun a => [(46, .slice Q xs.length C), (47, nI xs.length), (48, nI a.1)]) (fun _ => []) (fun a => a.2)
        (fun a => a.1 ≤ xs.length ∧ (∀ x ∈ xs.take a.1, chM x) ∧ Kn s5 a.2) (fun a => xs.length - a.1) (0, s5) ⟨Nat.zero_le _, fun x hx => by simp at hx, .refl⟩ (.cons rfl (.cons rfl (.cons rfl .nil))) rfl rfl (by have := h.len; show xs.length - 0 < _; omega) ?_
       rintro ⟨i, t0⟩ ⟨i1, i2, i3⟩
       simp only at i1 i2 i3
       dsimp only
       have wt : Wf t0 := i3.wf w5
       have kt : Kn s t0 := k05.call i3
       have hl := h.len
       by_cases hi : i < xs.length
       ·obtain ⟨gq, lx⟩ := (h.kn w0 kt).kid hi
        have hok := h.ok _ (List.getElem_mem hi)
        obtain ⟨x, ex⟩ : ∃ x, x = xs[i] := ⟨_, rfl⟩
        rw [← ex] at lx hok
        refine run1 ?_
        refine mkO (cs := [.slice none 0 0, .slice none 0 0, .bool false]) fun t1 r2 n2 g1 => ?_
        have wt1 : Wf t1 := g1.wf wt
        refine Wo.st rfl rfl rfl rfl rfl rfl rfl hok.one r2 (by decide) fun t2 r3 n3 g2 => ?_
        have r3' : Rw t2 t0.nx (chc x) t0.nx := by
         have e : lov [Value.slice none 0 0, .slice none 0 0, .bool false] 0 (chc x) = chc x := lov_all rfl
         rw [← e]; exact r3
        have k2 : Kn t0 t2 := g1.app g2 (Nat.le_refl _)
        have wt2 : Wf t2 := k2.wf wt
        have lt2 := r3'.all (n := 3) rfl (by decide)
        refine run1 ?_
        refine Wo.call rfl (Xc.call ok51 rfl) rfl ((mayStand_ok wt2 (hok.kn w0 (kt.call k2))).mono ?_)
        rintro v t3 ⟨rfl, g3⟩
        by_cases hch : chM x
        ·refine run1 ?_
         refine rnd.n (i + 1, t3) ⟨hi, ?_, i3.call (k2.call g3)⟩ (by show xs.length - (i + 1) < xs.length - i; omega) (.cons rfl (.cons rfl (.cons rfl .nil))) rfl rfl
         intro y hy
         rw [List.take_succ_eq_append_getElem hi] at hy
         rcases List.mem_append.1 hy with hy | hy
         ·exact i2 y hy
         ·rw [List.mem_singleton.1 hy, ← ex]; exact hch
        ·refine run1 ?_
         refine Lv.ret rfl ⟨hno fun h => hch ?_, kt.call (k2.call g3)⟩
         rw [ex]; exact h.2.2.2.2 _ (List.getElem_mem hi)
       ·rw [List.take_of_length_le (by omega)] at i2
        refine run1 ?_
        refine Lv.ret rfl ⟨?_, kt⟩
        refine congrArg Value.bool (decide_eq_true ⟨?_, by omega, by omega, by omega, i2⟩).symm
        rcases hd1 with ⟨h1, h2, h3⟩ | ⟨h1, h2, h3⟩ | ⟨h1, h2⟩
        ·exact .inl ⟨h1, by omega, by omega⟩
        ·exact .inr ⟨h1, by omega, by omega⟩
        ·omega
 ·refine run1 ?_
  exact Lv.ret rfl ⟨hno fun h => by rcases h.1 with ⟨h, _⟩ | ⟨h, _⟩ <;> omega, k05⟩
end Go.Proofs.YtglilbadldocoaaGreatDoor
