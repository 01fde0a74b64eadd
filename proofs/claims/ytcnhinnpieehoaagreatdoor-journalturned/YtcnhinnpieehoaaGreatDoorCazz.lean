import Derived.Test.YtcnhinnpieehoaaGreatDoorRazz
import Derived.Test.YtcnhinnpieehoaaGreatDoorDczz
import Derived.Test.YtcnhinnpieehoaaGreatDoorBbzz
namespace Go.Proofs.YtcnhinnpieehoaaGreatDoor
open Go Go.Ev Go.Sy
set_option maxRecDepth 100000
variable {s s0 : St} {p γ δ n c m N d : Nat} {q : Option Addr} {A D F : List Nat} {L cs : List Value}
def fS (b : List Nat) : List Nat := if b.length = 1 ∧ b.getD 0 0 < 128 then b else hd 128 b.length ++ b
def fL (c : List Nat) : List Nat := hd 192 c.length ++ c
def Fm (s : St) : Nat → List Value → List Nat → Prop
 | 0, _, _ => False
 | d + 1, cs, F => (∃ (q : Option Addr) (c : Nat) (b : List Nat) (q' : Option Addr) (c' : Nat), cs = [.bool false, .slice q b.length c, .slice q' 0 c'] ∧ At s q (b.map nB) ∧ b.length < 2 ^ 40 ∧ F = fS b) ∨
  ∃ (q : Option Addr) (c : Nat) (q' : Option Addr) (c' : Nat) (css : List (List Value)) (Fs : List (List Nat)), cs = [.bool true, .slice q' 0 c', .slice q Fs.length c] ∧ At s q css.flatten ∧ css.length = Fs.length ∧ Fs.length < 2 ^ 40 ∧ (∀ x ∈ css, x.length = 3) ∧ (∀ (i : Nat) (x : List Value) (G : List Nat), css[i]? = some x → Fs[i]? = some G → Fm s d x G) ∧ F = fL Fs.flatten
theorem At.kpN {s0 s : St} {q : Option Addr} {cs : List Value} (h : At s0 q cs) (w : Wf s0) (k : Kp (fun c => s0.nx ≤ c) s0 s) : At s q cs := by
 obtain ⟨γ, h1, h2⟩ := h.sl
 exact (h1.kp w k (by have := h2 w; omega)).at
theorem Fm.kpN (w : Wf s0) (k : Kp (fun c => s0.nx ≤ c) s0 s) : ∀ {d : Nat} {cs : List Value} {F : List Nat}, Fm s0 d cs F → Fm s d cs F
 | 0, _, _, h => absurd h id
 | d + 1, cs, F, h => by
  rcases h with ⟨q, c, b, q', c', e, h1, h2, h3⟩ | ⟨q, c, q', c', css, Fs, e, h1, h2, hl60, h3, h4, h5⟩
  ·exact .inl ⟨q, c, b, q', c', e, At.kpN h1 w k, h2, h3⟩
  ·exact .inr ⟨q, c, q', c', css, Fs, e, At.kpN h1 w k, h2, hl60, h3, fun i x G hx hG => Fm.kpN w k (h4 i x G hx hG), h5⟩
theorem Fm.kn {s' : St} (h : Fm s d cs F) (w : Wf s) (k : Kn s s') : Fm s' d cs F := Fm.kpN w (k.w) h
theorem Fm.len (h : Fm s d cs F) : cs.length = 3 ∧ ∀ v ∈ cs, one v = true := by
 cases d with
 | zero => exact absurd h id
 | succ d =>
  rcases h with ⟨q, c, b, q', c', rfl, _⟩ | ⟨q, c, q', c', css, Fs, rfl, _⟩
  ·exact ⟨rfl, by intro v hv; simp at hv; rcases hv with rfl | rfl | rfl <;> rfl⟩
  ·exact ⟨rfl, by intro v hv; simp at hv; rcases hv with rfl | rfl | rfl <;> rfl⟩
def z3 : List Value := [.bool false, .slice none 0 0, .slice none 0 0]
theorem flat3 : ∀ {css : List (List Value)}, (∀ x ∈ css, x.length = 3) → ∀ {i : Nat} {x : List Value}, css[i]? = some x → (css.flatten.drop (i * 3)).take 3 = x ∧ i * 3 + 3 ≤ css.flatten.length
 | [], _, i, x, h => by simp at h
 | y :: css, hl, 0, x, h => by
  simp at h
  subst h
  have := hl y (by simp)
  rw [List.flatten_cons]
  refine ⟨?_, by rw [List.length_append]; omega⟩
  rw [Nat.zero_mul, List.drop_zero, List.take_append_of_le_length (by omega), List.take_of_length_le (by omega)]
 | y :: css, hl, i + 1, x, h => by
  have hy := hl y (by simp)
  obtain ⟨h1, h2⟩ := flat3 (css := css) (fun x hx => hl x (by simp [hx])) (i := i) (x := x) (by simpa using h)
  rw [List.flatten_cons]
  refine ⟨?_, by rw [List.length_append]; omega⟩
  rw [show (i + 1) * 3 = 3 + i * 3 by omega, ← List.drop_drop, List.drop_left' hy]
  exact h1
theorem kid {css : List (List Value)} (h : At s q css.flatten) (hl : ∀ x ∈ css, x.length = 3) {i : Nat} {x : List Value} (hx : css[i]? = some x) : good q ∧ ldn s (qadd q (i * 3)) 3 = some x := by
 obtain ⟨h1, h2⟩ := flat3 hl hx
 exact ⟨h.good (i := i * 3) (by omega), by rw [h.ldn h2 (by decide), h1]⟩
theorem deeper_ok : ∀ {d m : Nat} {s : St} {cs : List Value} {F : List Nat}, Wf s → Fm s d cs F → d ≤ m → m < 2 ^ 40 → Cl B (.call 57 [.agg ⟨cs⟩, nI m]) s fun v s' => v = .bool false ∧ Kn s s'
 | 0, _, _, _, _, _, h, _, _ => absurd h id
 | d + 1, m, s, cs, F, w0, h, hd, hm => by
  refine Cl.enter Tryz.f57 fn57 rfl rfl rfl ?_
  refine run1 ?_
  refine mkO (cs := cs) fun s1 r1 n1 k1 => ?_
  have w1 : Wf s1 := k1.wf w0
  have gd : good (some ⟨s.nx, 0, none⟩) := good_b
  rcases h with ⟨q, c, b, q', c', rfl, h1, h2, h3⟩ | ⟨q, c, q', c', css, Fs, rfl, h1, h2, hl60, h3, h4, h5⟩
  ·have l0 : ldq s1 (qadd (some ⟨s.nx, 0, none⟩) 0) = some (.bool false) := r1.f1 rfl
   refine run1 ?_
   exact Lv.ret rfl ⟨rfl, k1⟩
  ·have l0 : ldq s1 (qadd (some ⟨s.nx, 0, none⟩) 0) = some (.bool true) := r1.f1 rfl
   have l2 : ldq s1 (qadd (some ⟨s.nx, 0, none⟩) 2) = some (.slice q Fs.length c) := r1.f1 rfl
   have hm0 : ¬ m = 0 := by omega
   refine run1 ?_
   refine W.loop (α := Nat × St) (fun a => [(1, nI m), (13, .slice q Fs.length c), (14, nI Fs.length), (15, nI a.1)]) (fun _ => []) (fun a => a.2)
    (fun a => a.1 ≤ Fs.length ∧ Kn s1 a.2) (fun a => Fs.length - a.1) (0, s1) ⟨Nat.zero_le _, .refl⟩ (.cons rfl (.cons rfl (.cons rfl (.cons rfl .nil)))) rfl rfl (by show Fs.length - 0 < _; omega) ?_
   rintro ⟨i, t0⟩ ⟨i1, i2⟩
   simp only at i1 i2
   dsimp only
   have wt : Wf t0 := i2.wf w1
   by_cases hi : i < Fs.length
   ·have kt : Kn s t0 := k1.call i2
    obtain ⟨x, hx⟩ : ∃ x, css[i]? = some x := ⟨css[i]'(by omega), List.getElem?_eq_getElem _⟩
    obtain ⟨G, hG⟩ : ∃ G, Fs[i]? = some G := ⟨Fs[i]'hi, List.getElem?_eq_getElem _⟩
    have hF := h4 i x G hx hG
    obtain ⟨gq, lx⟩ := kid (h1.kn w0 kt) h3 hx
    obtain ⟨x3, x1⟩ := hF.len
    refine run1 ?_
    refine mkO (cs := z3) fun t1 r2 n2 g1 => ?_
    have wt1 : Wf t1 := g1.wf wt
    refine Wo.st rfl rfl rfl rfl rfl rfl x3 x1 r2 (by decide) fun t2 r3 n3 g2 => ?_
    rw [lov_all (by rw [x3]; rfl)] at r3
    have k2 : Kn t0 t2 := g1.app g2 (Nat.le_refl _)
    have wt2 : Wf t2 := k2.wf wt
    have lt2 := r3.all (n := 3) x3 (by decide)
    refine run1 ?_
    refine Wo.call rfl (Xc.call ok57 rfl) rfl ((deeper_ok wt2 (hF.kn w0 (kt.call k2)) (by omega) (by omega)).mono ?_)
    rintro v t3 ⟨rfl, g3⟩
    refine run1 ?_
    exact rnd.n (i + 1, t3) ⟨hi, i2.call (k2.call g3)⟩ (by show Fs.length - (i + 1) < Fs.length - i; omega) (.cons rfl (.cons rfl (.cons rfl (.cons rfl .nil)))) rfl rfl
   ·refine run1 ?_
    exact Lv.ret rfl ⟨rfl, k1.call i2⟩
open Go Go.Ev Go.Sy
set_option maxRecDepth 100000
variable {s s0 : St} {p γ δ n c m N d : Nat} {q : Option Addr} {A D F : List Nat} {L cs : List Value}
theorem alone0_ok : Cl B (.call 90 [.slice q 0 c]) s fun v s' => v = .bool false ∧ s' = s := by
 refine Cl.enter Tryz.f90 fn90 rfl rfl rfl ?_
 have h : ¬ 0 = 1 := by decide
 refine run1 ?_
 exact Lv.ret rfl ⟨rfl, rfl⟩
theorem may_ok : ∀ {d : Nat} {s : St} {cs : List Value} {F : List Nat}, Wf s → Fm s d cs F → Cl B (.call 58 [.agg ⟨cs⟩]) s fun v s' => v = .bool true ∧ Kn s s'
 | 0, _, _, _, _, h => absurd h id
 | d + 1, s, cs, F, w0, h => by
  refine Cl.enter Tryz.f58 fn58 rfl rfl rfl ?_
  refine run1 ?_
  refine mkO (cs := cs) fun s1 r1 n1 k1 => ?_
  have w1 : Wf s1 := k1.wf w0
  have gd : good (some ⟨s.nx, 0, none⟩) := good_b
  have h00 : 0 = 0 := rfl
  have h01 : ¬ 0 < 0 := by decide
  rcases h with ⟨q, c, b, q', c', rfl, h1, h2, h3⟩ | ⟨q, c, q', c', css, Fs, rfl, h1, h2, hl60, h3, h4, h5⟩
  ·have l0 : ldq s1 (qadd (some ⟨s.nx, 0, none⟩) 0) = some (.bool false) := r1.f1 rfl
   have l2 : ldq s1 (qadd (some ⟨s.nx, 0, none⟩) 2) = some (.slice q' 0 c') := r1.f1 rfl
   refine run1 ?_
   exact Lv.ret rfl ⟨rfl, k1⟩
  ·have l0 : ldq s1 (qadd (some ⟨s.nx, 0, none⟩) 0) = some (.bool true) := r1.f1 rfl
   have l1 : ldq s1 (qadd (some ⟨s.nx, 0, none⟩) 1) = some (.slice q' 0 c') := r1.f1 rfl
   have l2 : ldq s1 (qadd (some ⟨s.nx, 0, none⟩) 2) = some (.slice q Fs.length c) := r1.f1 rfl
   refine run1 ?_
   refine W.loop (α := Nat × St) (fun a => [(17, .slice q Fs.length c), (18, nI Fs.length), (19, nI a.1)]) (fun _ => []) (fun a => a.2)
    (fun a => a.1 ≤ Fs.length ∧ Kn s1 a.2) (fun a => Fs.length - a.1) (0, s1) ⟨Nat.zero_le _, .refl⟩ (.cons rfl (.cons rfl (.cons rfl .nil))) rfl rfl (by show Fs.length - 0 < _; omega) ?_
   rintro ⟨i, t0⟩ ⟨i1, i2⟩
   simp only at i1 i2
   dsimp only
   have wt : Wf t0 := i2.wf w1
   by_cases hi : i < Fs.length
   ·have kt : Kn s t0 := k1.call i2
    obtain ⟨x, hx⟩ : ∃ x, css[i]? = some x := ⟨css[i]'(by omega), List.getElem?_eq_getElem _⟩
    obtain ⟨G, hG⟩ : ∃ G, Fs[i]? = some G := ⟨Fs[i]'hi, List.getElem?_eq_getElem _⟩
    have hF := h4 i x G hx hG
    obtain ⟨gq, lx⟩ := kid (h1.kn w0 kt) h3 hx
    obtain ⟨x3, x1⟩ := hF.len
    refine run1 ?_
    refine mkO (cs := z3) fun t1 r2 n2 g1 => ?_
    have wt1 : Wf t1 := g1.wf wt
    refine Wo.st rfl rfl rfl rfl rfl rfl x3 x1 r2 (by decide) fun t2 r3 n3 g2 => ?_
    rw [lov_all (by rw [x3]; rfl)] at r3
    have k2 : Kn t0 t2 := g1.app g2 (Nat.le_refl _)
    have wt2 : Wf t2 := k2.wf wt
    have lt2 := r3.all (n := 3) x3 (by decide)
    refine run1 ?_
    refine Wo.call rfl (Xc.call ok58 rfl) rfl ((may_ok wt2 (hF.kn w0 (kt.call k2))).mono ?_)
    rintro v t3 ⟨rfl, g3⟩
    refine run1 ?_
    exact rnd.n (i + 1, t3) ⟨hi, i2.call (k2.call g3)⟩ (by show Fs.length - (i + 1) < Fs.length - i; omega) (.cons rfl (.cons rfl (.cons rfl .nil))) rfl rfl
   ·refine run1 ?_
    exact Lv.ret rfl ⟨rfl, k1.call i2⟩
theorem flat_take {Fs : List (List Nat)} {i : Nat} {G : List Nat} (h : Fs[i]? = some G) : (Fs.take (i + 1)).flatten.length = (Fs.take i).flatten.length + G.length ∧ (Fs.take (i + 1)).flatten.length ≤ Fs.flatten.length := by
 obtain ⟨h1, h2⟩ := List.getElem?_eq_some_iff.1 h
 have e : (Fs.take (i + 1)).flatten = (Fs.take i).flatten ++ G := by rw [List.take_succ_eq_append_getElem h1, List.flatten_append, h2]; simp
 refine ⟨by rw [e, List.length_append], ?_⟩
 have := List.take_append_drop (i + 1) Fs
 rw [← this, List.flatten_append, List.length_append]
 rw [List.take_append_of_le_length (by rw [List.length_take]; omega), List.take_of_length_le (by rw [List.length_take]; omega)]
 omega
theorem size_ok : ∀ {d : Nat} {s : St} {cs : List Value} {F : List Nat}, Wf s → Fm s d cs F → F.length ≤ 1048576 → Cl B (.call 59 [.agg ⟨cs⟩]) s fun v s' => v = nI F.length ∧ Kn s s'
 | 0, _, _, _, _, h, _ => absurd h id
 | d + 1, s, cs, F, w0, h, hsz => by
  refine Cl.enter Tryz.f59 fn59 rfl rfl rfl ?_
  refine run1 ?_
  refine mkO (cs := cs) fun s1 r1 n1 k1 => ?_
  have w1 : Wf s1 := k1.wf w0
  have gd : good (some ⟨s.nx, 0, none⟩) := good_b
  rcases h with ⟨q, c, b, q', c', rfl, h1, h2, h3⟩ | ⟨q, c, q', c', css, Fs, rfl, h1, h2, hl60, h3, h4, h5⟩
  ·have l1 : ldq s1 (qadd (some ⟨s.nx, 0, none⟩) 1) = some (.slice q b.length c) := r1.f1 rfl
   have l2 : ldq s1 (qadd (some ⟨s.nx, 0, none⟩) 2) = some (.slice q' 0 c') := r1.f1 rfl
   refine run1 ?_
   refine Wo.call rfl (Xc.call ok90 rfl) rfl ((alone_ok (h1.kn w0 k1) (by omega)).mono ?_)
   rintro v s' ⟨rfl, e'⟩; rw [e']; clear e' s'
   by_cases ha : b.length = 1 ∧ b.getD 0 0 < 128
   ·refine run1 ?_
    refine Lv.ret rfl ⟨?_, k1⟩
    rw [h3, fS, if_pos ha, ha.1]; rfl
   ·rw [fS, if_neg ha] at h3
    have hF : F.length = (hd 128 b.length).length + b.length := by rw [h3, List.length_append]
    have hp := hd_pos (n := b.length) (base := 128)
    refine run1 ?_
    refine W.loop (α := Unit) (fun _ => [(3, nI b.length), (14, nI 0), (15, nI 0)]) (fun _ => []) (fun _ => s1)
     (fun _ => True) (fun _ => 0) () trivial (.cons rfl (.cons rfl (.cons rfl .nil))) rfl rfl (by decide) ?_
    rintro ⟨⟩ _
    have h01 : ¬ 0 < 0 := by decide
    have hb : ¬ 1048576 < b.length := by omega
    refine run1 ?_
    refine Wo.call rfl (Xc.call ok91 rfl) rfl ((hsize_ok (base := 128) h2).mono ?_)
    rintro v s' ⟨rfl, e'⟩; rw [e']; clear e' s'
    obtain ⟨hh, ehh⟩ : ∃ hh, hh = (hd 128 b.length).length := ⟨_, rfl⟩
    rw [← ehh]
    refine run1 ?_
    refine Lv.ret rfl ⟨?_, k1⟩
    show nI (hh + b.length) = _
    rw [hF, ehh]
  ·have l1 : ldq s1 (qadd (some ⟨s.nx, 0, none⟩) 1) = some (.slice q' 0 c') := r1.f1 rfl
   have l2 : ldq s1 (qadd (some ⟨s.nx, 0, none⟩) 2) = some (.slice q Fs.length c) := r1.f1 rfl
   have hF : F.length = (hd 192 Fs.flatten.length).length + Fs.flatten.length := by rw [h5, fL, List.length_append]
   have hp := hd_pos (n := Fs.flatten.length) (base := 192)
   refine run1 ?_
   refine Wo.call rfl (Xc.call ok90 rfl) rfl (alone0_ok.mono ?_)
   rintro v s' ⟨rfl, e'⟩; rw [e']; clear e' s'
   refine run1 ?_
   refine W.loop (α := Nat × St) (fun a => [(3, nI (Fs.take a.1).flatten.length), (13, .slice q Fs.length c), (14, nI Fs.length), (15, nI a.1)]) (fun _ => []) (fun a => a.2)
    (fun a => a.1 ≤ Fs.length ∧ Kn s1 a.2) (fun a => Fs.length - a.1) (0, s1) ⟨Nat.zero_le _, .refl⟩ (.cons rfl (.cons rfl (.cons rfl (.cons rfl .nil)))) rfl rfl (by show Fs.length - 0 < _; omega) ?_
   rintro ⟨i, t0⟩ ⟨i1, i2⟩
   simp only at i1 i2
   dsimp only
   have wt : Wf t0 := i2.wf w1
   by_cases hi : i < Fs.length
   ·have kt : Kn s t0 := k1.call i2
    obtain ⟨x, hx⟩ : ∃ x, css[i]? = some x := ⟨css[i]'(by omega), List.getElem?_eq_getElem _⟩
    obtain ⟨G, hG⟩ : ∃ G, Fs[i]? = some G := ⟨Fs[i]'hi, List.getElem?_eq_getElem _⟩
    have hFm := h4 i x G hx hG
    obtain ⟨f1, f2⟩ := flat_take hG
    obtain ⟨gq, lx⟩ := kid (h1.kn w0 kt) h3 hx
    obtain ⟨x3, x1⟩ := hFm.len
    refine run1 ?_
    refine mkO (cs := z3) fun t1 r2 n2 g1 => ?_
    have wt1 : Wf t1 := g1.wf wt
    refine Wo.st rfl rfl rfl rfl rfl rfl x3 x1 r2 (by decide) fun t2 r3 n3 g2 => ?_
    rw [lov_all (by rw [x3]; rfl)] at r3
    have k2 : Kn t0 t2 := g1.app g2 (Nat.le_refl _)
    have wt2 : Wf t2 := k2.wf wt
    have lt2 := r3.all (n := 3) x3 (by decide)
    refine run1 ?_
    refine Wo.call rfl (Xc.call ok59 rfl) rfl ((size_ok wt2 (hFm.kn w0 (kt.call k2)) (by omega)).mono ?_)
    rintro v t3 ⟨rfl, g3⟩
    have hb : ¬ 1048576 < (Fs.take i).flatten.length + G.length := by omega
    refine run1 ?_
    refine rnd.n (i + 1, t3) ⟨hi, i2.call (k2.call g3)⟩ (by show Fs.length - (i + 1) < Fs.length - i; omega) (.cons ?_ (.cons rfl (.cons rfl (.cons rfl .nil)))) rfl rfl
    show some (nI ((Fs.take i).flatten.length + G.length)) = some (nI (Fs.take (i + 1)).flatten.length)
    rw [f1]
   ·have e : i = Fs.length := by omega
    subst e
    rw [List.take_length]
    have hb : ¬ 1048576 < Fs.flatten.length := by omega
    refine run1 ?_
    refine Wo.call rfl (Xc.call ok91 rfl) rfl ((hsize_ok (base := 192) (by omega)).mono ?_)
    rintro v s' ⟨rfl, e'⟩; rw [e']; clear e' s'
    obtain ⟨hh, ehh⟩ : ∃ hh, hh = (hd 192 Fs.flatten.length).length := ⟨_, rfl⟩
    rw [← ehh]
    refine run1 ?_
    refine Lv.ret rfl ⟨?_, k1.call i2⟩
    show nI (hh + Fs.flatten.length) = _
    rw [hF, ehh]
end Go.Proofs.YtcnhinnpieehoaaGreatDoor
namespace Go.Sy
open Go Go.Ev
def bcmp (A D : List Nat) : Int := Extern.BytealgCompare.cmp ⟨⟨A.map UInt8.ofNat⟩⟩ ⟨⟨D.map UInt8.ofNat⟩⟩
theorem bytesIn_at {s : St} {q : Option Addr} {A : List Nat} {c : Nat} (h : At s q (A.map nB)) : bytesIn s q A.length c = some (A.map UInt8.ofNat) := by
 unfold bytesIn
 rw [cells_at h (by rw [List.length_map, Nat.mul_one]) (by decide)]
 exact bytesOf_map A
section
variable {X : Fx} {env : Env} {s : St}
theorem Xv.bcmp {f : FuncId} {fn : Func} {x y : Operand} {ts : Array TypeId} {q r : Option Addr} {A D : List Nat} {c d : Nat} (hf : X.P.funcs[f]? = some fn) (hb : fn.body = none) (ho : (fn.origin == "") = true) (hn : (fn.name == "internal/bytealg.Compare") = true)
  (hx : ev env x = some (.slice q A.length c)) (hy : ev env y = some (.slice r D.length d)) (h1 : At s q (A.map nB)) (h2 : At s r (D.map nB)) : Xv X (.call ⟨.value (.func f), #[x, y], ts⟩) env s (.int .i64 (Go.Sy.bcmp A D)) s := fun tm hft => by
 show callE X.P f (appO [] (appO (opds tm [x, y]) [])) s = _
 rw [evs_opds hft (xs := [x, y]) (vs := [.slice q A.length c, .slice r D.length d]) (by unfold evs evs evs; rw [hx, hy]), appO_eq, appO_eq, List.append_nil, List.nil_append]
 unfold callE
 simp only [hf, hb, ho, cond_true]
 unfold extV
 simp only [hn, cond_true]
 rw [bytesIn_at h1, bytesIn_at h2]
 show fI (Go.Sy.bcmp A D) (fun n => Re.ok (.val (.int .i64 n)) s) = _
 rw [fI_eq]
end
end Go.Sy
namespace Go.Proofs.YtcnhinnpieehoaaGreatDoor
open Go Go.Ev Go.Sy
set_option maxRecDepth 100000
variable {s : St} {q r : Option Addr} {A D : List Nat} {c d : Nat}
theorem bcompare_ok (h1 : At s q (A.map nB)) (h2 : At s r (D.map nB)) : Cl B (.call 29 [.slice q A.length c, .slice r D.length d]) s fun v s' => v = .int .i64 (bcmp A D) ∧ s' = s := by
 refine Cl.enter Tryz.f29 fn29 rfl rfl rfl ?_
 refine run1 ?_
 refine Wo.val rfl (Xv.bcmp (show B.P.funcs[54]? = some Tryz.f54 by kernel_rfl) rfl rfl rfl rfl rfl h1 h2) rfl ?_
 obtain ⟨z, hz⟩ : ∃ z, z = bcmp A D := ⟨_, rfl⟩
 rw [← hz]
 refine run1 ?_
 exact Lv.ret rfl ⟨rfl, rfl⟩
abbrev bcf : Value := .func (.func 29) #[] #[]
def Strs (s : St) (q : Option Addr) (P : List (Value × List Nat)) : Prop := At s q (P.map Prod.fst) ∧ ∀ x ∈ P, ∃ q c, x.1 = .slice q x.2.length c ∧ At s q (x.2.map nB)
open Go Go.Ev Go.Sy
set_option maxRecDepth 100000
variable {s : St} {q r : Option Addr} {c d : Nat} {M N : List Nat}
theorem rcommon_ok (ha : Bs s q M) (hb : Bs s r N) (hA : M.length < 2 ^ 60) (_hB : N.length < 2 ^ 60) :
  Cl B (.call 62 [.slice q M.length c, .slice r N.length d]) s fun v s' => v = nI (com M N) ∧ s' = s := by
 refine Cl.enter Tryz.f62 fn62 rfl rfl rfl ?_
 refine run1 ?_
 refine W.loop (α := Nat) (fun i => [(0, .slice q M.length c), (1, .slice r N.length d), (5, nI i)]) (fun _ => []) (fun _ => s)
  (fun i => i ≤ M.length ∧ com M N = i + com (M.drop i) (N.drop i)) (fun i => M.length - i) 0 ⟨Nat.zero_le _, (Nat.zero_add _).symm⟩ (.cons rfl (.cons rfl (.cons rfl .nil))) rfl rfl (by omega) ?_
 intro i ⟨h1, h2⟩
 refine run1 ?_
 refine W.dr [(0, .none, 0), (1, .none, 0), (2, .none, 2), (3, .none, 7), (4, .none, 15), (5, .none, 31), (6, .none, 31), (7, .none, 95), (8, .none, 255), (9, .none, 511), (10, .none, 1023), (11, .none, 2047), (12, .none, 2047), (13, .none, 8191), (14, .reads, 16383), (15, .none, 2047), (16, .none, 2047), (17, .none, 100351), (18, .reads, 231423), (19, .none, 524287), (20, .none, 1048575)] (by kernel_rfl) rfl ?_
 by_cases k1 : i < M.length
 ·by_cases k2 : i < N.length
  ·by_cases k3 : M.getD i 0 = N.getD i 0
   ·refine run1 ?_
    refine rnd.n (i + 1) ⟨by omega, ?_⟩ (by omega) (.cons rfl (.cons rfl (.cons rfl .nil))) rfl rfl
    rw [h2, com_drop k1 k2, if_pos k3, Nat.add_assoc, Nat.add_comm 1]
   ·refine run1 ?_
    refine Lv.ret rfl ⟨congrArg nI ?_, rfl⟩
    rw [h2, com_drop k1 k2, if_neg k3]; rfl
  ·refine run1 ?_
   refine Lv.ret rfl ⟨congrArg nI ?_, rfl⟩
   rw [h2, com_end (.inr (by omega))]; rfl
 ·refine run1 ?_
  refine Lv.ret rfl ⟨congrArg nI ?_, rfl⟩
  rw [h2, com_end (.inl (by omega))]; rfl
theorem rcompare_ok (ha : Bs s q M) (hb : Bs s r N) (hA : M.length < 2 ^ 60) (hB : N.length < 2 ^ 60) :
  Cl B (.call 39 [.slice q M.length c, .slice r N.length d]) s fun v s' => v = .int .i64 (cmp M N) ∧ s' = s := by
 refine Cl.enter Tryz.f39 fn39 rfl rfl rfl ?_
 refine run1 ?_
 refine Wo.call rfl (Xc.call ok62 rfl) rfl ((rcommon_ok ha hb hA hB).mono ?_)
 rintro v s' ⟨rfl, rfl⟩
 obtain ⟨l1, l2⟩ := com_le M N
 by_cases k1 : com M N = M.length
 ·by_cases k2 : com M N = N.length
  ·refine run1 ?_
   exact Lv.ret rfl ⟨by rw [cmp, if_pos ⟨k1, k2⟩]; rfl, rfl⟩
  ·refine run1 ?_
   exact Lv.ret rfl ⟨by rw [cmp, if_neg fun h => k2 h.2, if_pos k1]; rfl, rfl⟩
 ·by_cases k2 : com M N = N.length
  ·refine run1 ?_
   exact Lv.ret rfl ⟨by rw [cmp, if_neg fun h => k1 h.1, if_neg k1, if_pos k2]; rfl, rfl⟩
  ·refine run1 ?_
   refine W.dr [(0, .none, 0), (1, .none, 0), (2, .none, 3), (3, .reads, 7), (4, .none, 0), (5, .none, 0), (6, .none, 48), (7, .reads, 112), (8, .none, 255), (9, .none, 511)] (by kernel_rfl) rfl ?_
   by_cases k3 : M.getD (com M N) 0 < N.getD (com M N) 0
   ·refine run1 ?_
    exact Lv.ret rfl ⟨by rw [cmp, if_neg fun h => k1 h.1, if_neg k1, if_neg k2, if_pos k3]; rfl, rfl⟩
   ·refine run1 ?_
    exact Lv.ret rfl ⟨by rw [cmp, if_neg fun h => k1 h.1, if_neg k1, if_neg k2, if_neg k3]; rfl, rfl⟩
theorem same_ok (ha : Bs s q M) (hb : Bs s r N) (hA : M.length < 2 ^ 60) (hB : N.length < 2 ^ 60) :
  Cl B (.call 18 [.slice q M.length c, .slice r N.length d]) s fun v s' => v = .bool (decide (M = N)) ∧ s' = s := by
 refine Cl.enter Tryz.f18 fn18 rfl rfl rfl ?_
 refine run1 ?_
 refine Wo.call rfl (Xc.call ok39 rfl) rfl ((rcompare_ok ha hb hA hB).mono ?_)
 rintro v s' ⟨rfl, rfl⟩
 refine run1 ?_
 exact Lv.ret rfl ⟨congrArg Value.bool (decide_eq_decide.2 cmp_zero), rfl⟩
end Go.Proofs.YtcnhinnpieehoaaGreatDoor
