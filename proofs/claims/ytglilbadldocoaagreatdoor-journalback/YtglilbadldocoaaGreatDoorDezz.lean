import Derived.Test.YtglilbadldocoaaGreatDoorRazz
import Derived.Test.YtglilbadldocoaaGreatDoorDczz
import Derived.Test.YtglilbadldocoaaGreatDoorMbzz
import Derived.Test.YtglilbadldocoaaGreatDoorCwzz
namespace Go.Proofs.YtglilbadldocoaaGreatDoor
open Go Go.Ev Go.Sy
set_option maxRecDepth 100000
variable {s s0 : St} {p γ δ n c m N d : Nat} {q : Option Addr} {A D F : List Nat} {L cs : List Value}
def fS (b : List Nat) : List Nat := if b.length = 1 ∧ b.getD 0 0 < 128 then b else hd 128 b.length ++ b
def fL (c : List Nat) : List Nat := hd 192 c.length ++ c
def Fm (s : St) : Nat → List Value → List Nat → Prop
 | 0, _, _ => False
 | d + 1, cs, F => (∃ (q : Option Addr) (c : Nat) (b : List Nat) (q' : Option Addr) (c' : Nat), cs = [.bool false, .slice q b.length c, .slice q' 0 c'] ∧ At s q (b.map nB) ∧ b.length < 2 ^ 40 ∧ F = fS b) ∨
  ∃ (q : Option Addr) (c : Nat) (q' : Option Addr) (c' : Nat) (css : List (List Value)) (Fs : List (List Nat)), cs = [.bool true, .slice q' 0 c', .slice q Fs.length c] ∧ At s q css.flatten ∧ css.length = Fs.length ∧ Fs.length < 2 ^ 40 ∧ (∀ x ∈ css, x.length = 3) ∧ (∀ (i : Nat) (x : List Value) (G : List Nat), css[i]? = some x → Fs[i]? = some G → Fm s d x G) ∧ F = fL Fs.flatten
theorem At.kpN {s0 s : St} {q : Option Addr} {cs : List Value} (h : At s0 q cs) (w : Wf s0) (k : Kp (fun c => s0.nx ≤ c) s0 s) : At s q cs := by
 obtain ⟨γ, h1, h2⟩ := h.sl
 exact (h1.kp w k (by have := h2 w; omega)).at
theorem Fm.kpN (w : Wf s0) (k : Kp (fun c => s0.nx ≤ c) s0 s) : ∀ {d : Nat} {cs : List Value} {F : List Nat}, Fm s0 d cs F → Fm s d cs F
 | 0, _, _, h => absurd h id
 | d + 1, cs, F, h => by
  rcases h with ⟨q, c, b, q', c', e, h1, h2, h3⟩ | ⟨q, c, q', c', css, Fs, e, h1, h2, hl60, h3, h4, h5⟩
  ·exact .inl ⟨q, c, b, q', c', e, At.kpN h1 w k, h2, h3⟩
  ·exact .inr ⟨q, c, q', c', css, Fs, e, At.kpN h1 w k, h2, hl60, h3, fun i x G hx hG => Fm.kpN w k (h4 i x G hx hG), h5⟩
theorem Fm.kn {s' : St} (h : Fm s d cs F) (w : Wf s) (k : Kn s s') : Fm s' d cs F := Fm.kpN w (k.w) h
theorem Fm.len (h : Fm s d cs F) : cs.length = 3 ∧ ∀ v ∈ cs, one v = true := by
 cases d with
 | zero => exact absurd h id
 | succ d =>
  rcases h with ⟨q, c, b, q', c', rfl, _⟩ | ⟨q, c, q', c', css, Fs, rfl, _⟩
  ·exact ⟨rfl, by intro v hv; simp at hv; rcases hv with rfl | rfl | rfl <;> rfl⟩
  ·exact ⟨rfl, by intro v hv; simp at hv; rcases hv with rfl | rfl | rfl <;> rfl⟩
def z3 : List Value := [.bool false, .slice none 0 0, .slice none 0 0]
theorem flat3 : ∀ {css : List (List Value)}, (∀ x ∈ css, x.length = 3) → ∀ {i : Nat} {x : List Value}, css[i]? = some x → (css.flatten.drop (i * 3)).take 3 = x ∧ i * 3 + 3 ≤ css.flatten.length
 | [], _, i, x, h => by simp at h
 | y :: css, hl, 0, x, h => by
  simp at h
  subst h
  have := hl y (by simp)
  rw [List.flatten_cons]
  refine ⟨?_, by rw [List.length_append]; omega⟩
  rw [Nat.zero_mul, List.drop_zero, List.take_append_of_le_length (by omega), List.take_of_length_le (by omega)]
 | y :: css, hl, i + 1, x, h => by
  have hy := hl y (by simp)
  obtain ⟨h1, h2⟩ := flat3 (css := css) (fun x hx => hl x (by simp [hx])) (i := i) (x := x) (by simpa using h)
  rw [List.flatten_cons]
  refine ⟨?_, by rw [List.length_append]; omega⟩
  rw [show (i + 1) * 3 = 3 + i * 3 by omega, ← List.drop_drop, List.drop_left' hy]
  exact h1
theorem kid {css : List (List Value)} (h : At s q css.flatten) (hl : ∀ x ∈ css, x.length = 3) {i : Nat} {x : List Value} (hx : css[i]? = some x) : good q ∧ ldn s (qadd q (i * 3)) 3 = some x := by
 obtain ⟨h1, h2⟩ := flat3 hl hx
 exact ⟨h.good (i := i * 3) (by omega), by rw [h.ldn h2 (by decide), h1]⟩
theorem deeper_ok : ∀ {d m : Nat} {s : St} {cs : List Value} {F : List Nat}, Wf s → Fm s d cs F → d ≤ m → m < 2 ^ 40 → Cl B (.call 52 [.agg ⟨cs⟩, nI m]) s fun v s' => v = .bool false ∧ Kn s s'
 | 0, _, _, _, _, _, h, _, _ => absurd h id
 | d + 1, m, s, cs, F, w0, h, hd, hm => by
  refine Cl.enter Tryz.f52 fn52 rfl rfl rfl ?_
  refine run1 ?_
  refine mkO (cs := cs) fun s1 r1 n1 k1 => ?_
  have w1 : Wf s1 := k1.wf w0
  have gd : good (some ⟨s.nx, 0, none⟩) := good_b
  rcases h with ⟨q, c, b, q', c', rfl, h1, h2, h3⟩ | ⟨q, c, q', c', css, Fs, rfl, h1, h2, hl60, h3, h4, h5⟩
  ·have l0 : ldq s1 (qadd (some ⟨s.nx, 0, none⟩) 0) = some (.bool false) := r1.f1 rfl
   refine run1 ?_
   exact Lv.ret rfl ⟨rfl, k1⟩
  ·have l0 : ldq s1 (qadd (some ⟨s.nx, 0, none⟩) 0) = some (.bool true) := r1.f1 rfl
   have l2 : ldq s1 (qadd (some ⟨s.nx, 0, none⟩) 2) = some (.slice q Fs.length c) := r1.f1 rfl
   have hm0 : ¬ m = 0 := by omega
   refine run1 ?_
   refine W.loop (α := Nat × St) (fun a => [(1, nI m), (13, .slice q Fs.length c), (14, nI Fs.length), (15, nI a.1)]) (fun _ => []) (fun a => a.2)
    (fun a => a.1 ≤ Fs.length ∧ Kn s1 a.2) (fun a => Fs.length - a.1) (0, s1) ⟨Nat.zero_le _, .refl⟩ (.cons rfl (.cons rfl (.cons rfl (.cons rfl .nil)))) rfl rfl (by show Fs.length - 0 < _; omega) ?_
   rintro ⟨i, t0⟩ ⟨i1, i2⟩
   simp only at i1 i2
   dsimp only
   have wt : Wf t0 := i2.wf w1
   by_cases hi : i < Fs.length
   ·have kt : Kn s t0 := k1.call i2
    obtain ⟨x, hx⟩ : ∃ x, css[i]? = some x := ⟨css[i]'(by omega), List.getElem?_eq_getElem _⟩
    obtain ⟨G, hG⟩ : ∃ G, Fs[i]? = some G := ⟨Fs[i]'hi, List.getElem?_eq_getElem _⟩
    have hF := h4 i x G hx hG
    obtain ⟨gq, lx⟩ := kid (h1.kn w0 kt) h3 hx
    obtain ⟨x3, x1⟩ := hF.len
    refine run1 ?_
    refine mkO (cs := z3) fun t1 r2 n2 g1 => ?_
    have wt1 : Wf t1 := g1.wf wt
    refine Wo.st rfl rfl rfl rfl rfl rfl x3 x1 r2 (by decide) fun t2 r3 n3 g2 => ?_
    rw [lov_all (by rw [x3]; rfl)] at r3
    have k2 : Kn t0 t2 := g1.app g2 (Nat.le_refl _)
    have wt2 : Wf t2 := k2.wf wt
    have lt2 := r3.all (n := 3) x3 (by decide)
    refine run1 ?_
    refine Wo.call rfl (Xc.call ok52 rfl) rfl ((deeper_ok wt2 (hF.kn w0 (kt.call k2)) (by omega) (by omega)).mono ?_)
    rintro v t3 ⟨rfl, g3⟩
    refine run1 ?_
    exact rnd.n (i + 1, t3) ⟨hi, i2.call (k2.call g3)⟩ (by show Fs.length - (i + 1) < Fs.length - i; omega) (.cons rfl (.cons rfl (.cons rfl (.cons rfl .nil)))) rfl rfl
   ·refine run1 ?_
    exact Lv.ret rfl ⟨rfl, k1.call i2⟩
end Go.Proofs.YtglilbadldocoaaGreatDoor
namespace Go.Sy
open Go Go.Ev
def bcmp (A D : List Nat) : Int := Extern.BytealgCompare.cmp ⟨⟨A.map UInt8.ofNat⟩⟩ ⟨⟨D.map UInt8.ofNat⟩⟩
theorem bytesIn_at {s : St} {q : Option Addr} {A : List Nat} {c : Nat} (h : At s q (A.map nB)) : bytesIn s q A.length c = some (A.map UInt8.ofNat) := by
 unfold bytesIn
 rw [cells_at h (by rw [List.length_map, Nat.mul_one]) (by decide)]
 exact bytesOf_map A
section
variable {X : Fx} {env : Env} {s : St}
theorem Xv.bcmp {f : FuncId} {fn : Func} {x y : Operand} {ts : Array TypeId} {q r : Option Addr} {A D : List Nat} {c d : Nat} (hf : X.P.funcs[f]? = some fn) (hb : fn.body = none) (ho : (fn.origin == "") = true) (hn : (fn.name == "internal/bytealg.Compare") = true)
  (hx : ev env x = some (.slice q A.length c)) (hy : ev env y = some (.slice r D.length d)) (h1 : At s q (A.map nB)) (h2 : At s r (D.map nB)) : Xv X (.call ⟨.value (.func f), #[x, y], ts⟩) env s (.int .i64 (Go.Sy.bcmp A D)) s := fun tm hft => by
 show callE X.P f (appO [] (appO (opds tm [x, y]) [])) s = _
 rw [evs_opds hft (xs := [x, y]) (vs := [.slice q A.length c, .slice r D.length d]) (by unfold evs evs evs; rw [hx, hy]), appO_eq, appO_eq, List.append_nil, List.nil_append]
 unfold callE
 simp only [hf, hb, ho, cond_true]
 unfold extV
 simp only [hn, cond_true]
 rw [bytesIn_at h1, bytesIn_at h2]
 show fI (Go.Sy.bcmp A D) (fun n => Re.ok (.val (.int .i64 n)) s) = _
 rw [fI_eq]
end
end Go.Sy
namespace Go.Proofs.YtglilbadldocoaaGreatDoor
open Go Go.Ev Go.Sy
set_option maxRecDepth 100000
variable {s : St} {q r : Option Addr} {A D : List Nat} {c d : Nat}
theorem bcompare_ok (h1 : At s q (A.map nB)) (h2 : At s r (D.map nB)) : Cl B (.call 28 [.slice q A.length c, .slice r D.length d]) s fun v s' => v = .int .i64 (bcmp A D) ∧ s' = s := by
 refine Cl.enter Tryz.f28 fn28 rfl rfl rfl ?_
 refine run1 ?_
 refine Wo.val rfl (Xv.bcmp (show B.P.funcs[49]? = some Tryz.f49 by kernel_rfl) rfl rfl rfl rfl rfl h1 h2) rfl ?_
 obtain ⟨z, hz⟩ : ∃ z, z = bcmp A D := ⟨_, rfl⟩
 rw [← hz]
 refine run1 ?_
 exact Lv.ret rfl ⟨rfl, rfl⟩
abbrev bcf : Value := .func (.func 28) #[] #[]
def Strs (s : St) (q : Option Addr) (P : List (Value × List Nat)) : Prop := At s q (P.map Prod.fst) ∧ ∀ x ∈ P, ∃ q c, x.1 = .slice q x.2.length c ∧ At s q (x.2.map nB)
end Go.Proofs.YtglilbadldocoaaGreatDoor
namespace Go.Sy
open Go Go.Ev
section
variable {X : Fx} {env : Env} {s : St}
theorem Xv.mark0 {f : FuncId} {fn : Func} {ts : Array TypeId} (hf : X.P.funcs[f]? = some fn) (hb : fn.body = none) (ho : (fn.origin == "") = true) (hn : (fn.name == "internal/race.Disable" || fn.name == "internal/race.Enable") = true) : Xv X (.call ⟨.value (.func f), #[], ts⟩) env s (.tuple ⟨[]⟩) s := fun tm hft => by
 show callE X.P f [] s = _
 unfold callE
 simp only [hf, hb, ho, cond_true]
 unfold extV
 simp only [hn, cond_true]; rfl
theorem Xv.mark1 {f : FuncId} {fn : Func} {x : Operand} {ts : Array TypeId} {b o : Nat} (hf : X.P.funcs[f]? = some fn) (hb : fn.body = none) (ho : (fn.origin == "") = true) (hn : (fn.name == "internal/race.Acquire" || fn.name == "internal/race.ReleaseMerge") = true) (hx : ev env x = some (.pointer (some ⟨b, o, none⟩))) : Xv X (.call ⟨.value (.func f), #[x], ts⟩) env s (.tuple ⟨[]⟩) s := fun tm hft => by
 show callE X.P f (appO [] (appO (opds tm [x]) [])) s = _
 rw [evs_opds hft (xs := [x]) (vs := [.pointer (some ⟨b, o, none⟩)]) (by unfold evs evs; rw [hx]), appO_eq, appO_eq, List.append_nil, List.nil_append]
 unfold callE
 simp only [hf, hb, ho, cond_true]
 unfold extV
 simp only [hn, cond_true]; rfl
theorem Xv.raw {src dst t0 t1 n0 n1 e t2 n2 : Nat} {z0 z1 z2 : Option (List Value)} {k2 : Sh} {x : Operand} {b o : Nat} {v : Value} (hs : tk X.B.T src = some ⟨t0, n0, .pt e, z0⟩) (hd : tk X.B.T dst = some ⟨t1, n1, .un, z1⟩) (he : tk X.B.T e = some ⟨t2, n2, k2, z2⟩) (hn : Nat.blt 0 n2 = true) (hx : ev env x = some (.pointer (some ⟨b, o, none⟩))) (hr : readAt1 s b o = some v) : Xv X (.convert src dst x) env s (.pointer (some ⟨b, o, none⟩)) s := fun tm hf => by
 show xConv X.P src dst (opd tm x) s = _
 rw [ev_opd hf hx]
 unfold xConv
 simp only [show X.P.underlying src = some (.pointer e) from X.B.un hs, show X.P.underlying dst = some .unsafePointer from X.B.un hd, show sizeOfT X.P e = some n2 from X.B.sz he, hr]
 show cond (Nat.blt 0 n2) (toRaw b o (some v) s) .no = _
 rw [hn]; rfl
theorem Xv.cas {f : FuncId} {fn : Func} {x y z : Operand} {ts : Array TypeId} {b o γ : Nat} {l : List Value} {a c : Int} (hf : X.P.funcs[f]? = some fn) (hb : fn.body = none) (ho : (fn.origin == "") = true) (hn : (fn.name == "sync/atomic.CompareAndSwapInt32") = true) (hx : ev env x = some (.pointer (some ⟨b, o, none⟩))) (hy : ev env y = some (.int .i32 a)) (hz : ev env z = some (.int .i32 c)) (hr : Rw s b l γ) (hl : l[o]? = some (.int .i32 a)) :
  ∃ s', Xv X (.call ⟨.value (.func f), #[x, y, z], ts⟩) env s (.bool true) s' ∧ Rw s' b (lov l o [.int .i32 c]) γ ∧ s'.nx = s.nx ∧ Kp (fun c => c = γ) s s' := by
 have hol : o < l.length := (List.getElem?_eq_some_iff.1 hl).1
 have hr1 : readAt1 s b o = some (.int .i32 a) := by
  have h1 : At s (some ⟨b, 0, none⟩) l := by
   have := (hr.sl (o := 0) (n := l.length) (by omega)).at
   rwa [List.drop_zero, List.take_length] at this
  have := h1.ld hol
  rw [(List.getElem?_eq_some_iff.1 hl).2] at this
  have e : qadd (some ⟨b, 0, none⟩) o = some ⟨b, o, none⟩ := by show some (Addr.mk b (0 + o) none) = _; rw [Nat.zero_add]
  rw [e] at this
  exact this
 obtain ⟨g, hr2, rfl⟩ := hr
 obtain ⟨s', a1, a2, a3, a4⟩ := writeAt_ok hr2 (vs := [.int .i32 c]) (off := o) (by simp; omega) (by intro v hv; rw [List.mem_singleton] at hv; rw [hv]; rfl)
 refine ⟨s', fun tm hft => ?_, ⟨g, a2, rfl⟩, a3, a4⟩
 show callE X.P f (appO [] (appO (opds tm [x, y, z]) [])) s = _
 rw [evs_opds hft (xs := [x, y, z]) (vs := [.pointer (some ⟨b, o, none⟩), .int .i32 a, .int .i32 c]) (by unfold evs evs evs evs; rw [hx, hy, hz]), appO_eq, appO_eq, List.append_nil, List.nil_append]
 unfold callE
 simp only [hf, hb, ho, cond_true]
 unfold extV
 simp only [hn, cond_true]
 unfold casV
 rw [hr1]
 simp only [decide_true, cond_true, a1]
theorem Xv.addA {f : FuncId} {fn : Func} {x y : Operand} {ts : Array TypeId} {b o γ : Nat} {l : List Value} {a c d : Int} (hf : X.P.funcs[f]? = some fn) (hb : fn.body = none) (ho : (fn.origin == "") = true) (hn : (fn.name == "sync/atomic.AddInt32") = true) (hx : ev env x = some (.pointer (some ⟨b, o, none⟩))) (hy : ev env y = some (.int .i32 c)) (hr : Rw s b l γ) (hl : l[o]? = some (.int .i32 a)) (hd : IntKind.wrap .i32 (a + c) = d) :
  ∃ s', Xv X (.call ⟨.value (.func f), #[x, y], ts⟩) env s (.int .i32 d) s' ∧ Rw s' b (lov l o [.int .i32 d]) γ ∧ s'.nx = s.nx ∧ Kp (fun c => c = γ) s s' := by
 have hol : o < l.length := (List.getElem?_eq_some_iff.1 hl).1
 have hr1 : readAt1 s b o = some (.int .i32 a) := by
  have h1 : At s (some ⟨b, 0, none⟩) l := by
   have := (hr.sl (o := 0) (n := l.length) (by omega)).at
   rwa [List.drop_zero, List.take_length] at this
  have := h1.ld hol
  rw [(List.getElem?_eq_some_iff.1 hl).2] at this
  have e : qadd (some ⟨b, 0, none⟩) o = some ⟨b, o, none⟩ := by show some (Addr.mk b (0 + o) none) = _; rw [Nat.zero_add]
  rw [e] at this
  exact this
 obtain ⟨g, hr2, rfl⟩ := hr
 obtain ⟨s', a1, a2, a3, a4⟩ := writeAt_ok hr2 (vs := [.int .i32 d]) (off := o) (by simp; omega) (by intro v hv; rw [List.mem_singleton] at hv; rw [hv]; rfl)
 refine ⟨s', fun tm hft => ?_, ⟨g, a2, rfl⟩, a3, a4⟩
 show callE X.P f (appO [] (appO (opds tm [x, y]) [])) s = _
 rw [evs_opds hft (xs := [x, y]) (vs := [.pointer (some ⟨b, o, none⟩), .int .i32 c]) (by unfold evs evs evs; rw [hx, hy]), appO_eq, appO_eq, List.append_nil, List.nil_append]
 unfold callE
 simp only [hf, hb, ho, cond_true]
 unfold extV
 simp only [hn, cond_true]
 unfold addV
 rw [hr1]
 show addW s b o (some (.int .i32 (IntKind.wrap .i32 (a + c)))) = _
 rw [hd]
 show fI d (fun n => match writeAt s b o [.int .i32 n] with | some s => Re.ok (.val (.int .i32 n)) s | none => .no) = _
 rw [fI_eq, a1]
end
section
variable {X : Fx} {env : Env} {df : List Deferred} {s : St} {Q : Post} {all os : List Oper} {d : Option Nat} {ty : TypeId} {pos : String} {af : Array Edge} {gd : Option (Nat × Bool)}
theorem Wo.cas {f : FuncId} {fn : Func} {x y z : Operand} {ts : Array TypeId} {b o γ : Nat} {l : List Value} {a c : Int} (hg : wantsE all env gd = some true) (hdo : dOk X d = true) (hf : X.P.funcs[f]? = some fn) (hb : fn.body = none) (ho : (fn.origin == "") = true) (hn : (fn.name == "sync/atomic.CompareAndSwapInt32") = true) (hx : ev env x = some (.pointer (some ⟨b, o, none⟩))) (hy : ev env y = some (.int .i32 a)) (hz : ev env z = some (.int .i32 c)) (hr : Rw s b l γ) (hl : l[o]? = some (.int .i32 a))
  (K : ∀ s', Rw s' b (lov l o [.int .i32 c]) γ → s'.nx = s.nx → Kp (fun c => c = γ) s s' → Wo X all os (up d (.bool true) env) df s' Q) : Wo X all (⟨d, .call ⟨.value (.func f), #[x, y, z], ts⟩, ty, pos, af, gd⟩ :: os) env df s Q := by
 obtain ⟨s', k1, k2, k3, k4⟩ := Xv.cas (X := X) (ts := ts) hf hb ho hn hx hy hz hr hl
 exact Wo.val hg k1 hdo (K s' k2 k3 k4)
theorem Wo.addA {f : FuncId} {fn : Func} {x y : Operand} {ts : Array TypeId} {b o γ : Nat} {l : List Value} {a c e : Int} (hg : wantsE all env gd = some true) (hdo : dOk X d = true) (hf : X.P.funcs[f]? = some fn) (hb : fn.body = none) (ho : (fn.origin == "") = true) (hn : (fn.name == "sync/atomic.AddInt32") = true) (hx : ev env x = some (.pointer (some ⟨b, o, none⟩))) (hy : ev env y = some (.int .i32 c)) (hr : Rw s b l γ) (hl : l[o]? = some (.int .i32 a)) (hd : IntKind.wrap .i32 (a + c) = e)
  (K : ∀ s', Rw s' b (lov l o [.int .i32 e]) γ → s'.nx = s.nx → Kp (fun c => c = γ) s s' → Wo X all os (up d (.int .i32 e) env) df s' Q) : Wo X all (⟨d, .call ⟨.value (.func f), #[x, y], ts⟩, ty, pos, af, gd⟩ :: os) env df s Q := by
 obtain ⟨s', k1, k2, k3, k4⟩ := Xv.addA (X := X) (ts := ts) hf hb ho hn hx hy hr hl hd
 exact Wo.val hg k1 hdo (K s' k2 k3 k4)
end
end Go.Sy
namespace Go.Proofs.YtglilbadldocoaaGreatDoor
open Go Go.Ev Go.Sy
set_option maxRecDepth 100000
variable {s : St} {b o γ : Nat} {l : List Value}
theorem fx {f : FuncId} {fn : Func} (h : Tryz.prog.funcs[f]? = some fn) : B.P.funcs[f]? = some fn := h
theorem ilock_ok (_w0 : Wf s) (hr : Rw s b l γ) (hl : l[o]? = some (.int .i32 0)) : Cl B (.call 45 [.pointer (some ⟨b, o, none⟩)]) s fun _ s' => Rw s' b (lov l o [.int .i32 1]) γ ∧ s'.nx = s.nx ∧ Kp (fun c => c = γ) s s' := by
 have hgd : good (some ⟨b, o, none⟩) := ⟨_, _, rfl⟩
 refine Cl.enter Tryz.f45 fn45 rfl rfl rfl ?_
 refine run1 ?_
 refine Wo.val rfl (Xv.mark0 (fx (f := 69) (fn := Tryz.f69) (by kernel_rfl)) rfl rfl rfl) rfl (run1 ?_)
 refine Wo.val rfl (Xv.nilC rfl) rfl (run1 ?_)
 refine Wo.cas rfl rfl (fx (f := 70) (fn := Tryz.f70) (by kernel_rfl)) rfl rfl rfl rfl rfl rfl hr hl ?_
 intro s1 k1 k2 k3
 have k1' : Rw s1 b (lov l o [.int .i32 1]) γ := k1
 have hlen : o < l.length := (List.getElem?_eq_some_iff.1 hl).1
 have hrd : readAt1 s1 b o = some (.int .i32 1) := by
  have := (Rw.ats k1').ld (i := o) (by rw [lov_length (by simp; omega)]; exact hlen)
  rw [show (lov l o [Value.int .i32 1])[o]'(by rw [lov_length (by simp; omega)]; exact hlen) = .int .i32 1 by
   simp only [lov]; rw [List.getElem_append_right (by rw [List.length_take]; omega)]; simp [List.length_take, Nat.min_eq_left (Nat.le_of_lt hlen)]] at this
  have e : qadd (some ⟨b, 0, none⟩) o = some ⟨b, o, none⟩ := by show some (Addr.mk b (0 + o) none) = _; rw [Nat.zero_add]
  rw [e] at this
  exact this
 refine run1 ?_
 refine Wo.val rfl (Xv.mark0 (fx (f := 71) (fn := Tryz.f71) (by kernel_rfl)) rfl rfl rfl) rfl (run1 ?_)
 refine Wo.val rfl (Xv.raw rfl rfl rfl rfl rfl hrd) rfl (run1 ?_)
 refine Wo.val rfl (Xv.mark1 (fx (f := 72) (fn := Tryz.f72) (by kernel_rfl)) rfl rfl rfl rfl) rfl (run1 ?_)
 exact Lv.ret rfl ⟨k1', k2, k3⟩
theorem lock_ok (w0 : Wf s) (hr : Rw s b l γ) (hl : l[o]? = some (.int .i32 0)) : Cl B (.call 23 [.pointer (some ⟨b, o, none⟩)]) s fun _ s' => Rw s' b (lov l o [.int .i32 1]) γ ∧ s'.nx = s.nx ∧ Kp (fun c => c = γ) s s' := by
 have hgd : good (some ⟨b, o, none⟩) := ⟨_, _, rfl⟩
 refine Cl.enter Tryz.f23 fn23 rfl rfl rfl ?_
 refine run1 ?_
 refine Wo.val rfl (Xv.nilC rfl) rfl (run1 ?_)
 refine Wo.call rfl (Xc.call ok45 rfl) rfl ((ilock_ok w0 hr hl).mono ?_)
 rintro v s' k
 refine run1 ?_
 exact Lv.nrm rfl k
theorem Rw.rd1 {v : Value} (hr : Rw s b l γ) (hl : l[o]? = some v) : readAt1 s b o = some v := by
 have hol : o < l.length := (List.getElem?_eq_some_iff.1 hl).1
 have := (Rw.ats hr).ld hol
 rw [(List.getElem?_eq_some_iff.1 hl).2] at this
 have e : qadd (some ⟨b, 0, none⟩) o = some ⟨b, o, none⟩ := by show some (Addr.mk b (0 + o) none) = _; rw [Nat.zero_add]
 rw [e] at this
 exact this
theorem iunlock_ok (hr : Rw s b l γ) (hl : l[o]? = some (.int .i32 1)) : Cl B (.call 46 [.pointer (some ⟨b, o, none⟩)]) s fun _ s' => Rw s' b (lov l o [.int .i32 0]) γ ∧ s'.nx = s.nx ∧ Kp (fun c => c = γ) s s' := by
 have hgd : good (some ⟨b, o, none⟩) := ⟨_, _, rfl⟩
 have hrd := Rw.rd1 hr hl
 have hld : ldq s (qadd (some ⟨b, o, none⟩) 0) = some (.int .i32 1) := hrd
 refine Cl.enter Tryz.f46 fn46 rfl rfl rfl ?_
 refine run1 ?_
 refine Wo.val rfl (Xv.nilC rfl) rfl (run1 ?_)
 refine Wo.val rfl (Xv.raw rfl rfl rfl rfl rfl hrd) rfl (run1 ?_)
 refine Wo.val rfl (Xv.mark1 (fx (f := 74) (fn := Tryz.f74) (by kernel_rfl)) rfl rfl rfl rfl) rfl (run1 ?_)
 refine Wo.val rfl (Xv.mark0 (fx (f := 69) (fn := Tryz.f69) (by kernel_rfl)) rfl rfl rfl) rfl (run1 ?_)
 refine Wo.val rfl (Xv.nilC rfl) rfl (run1 ?_)
 refine Wo.addA (e := 0) rfl rfl (fx (f := 75) (fn := Tryz.f75) (by kernel_rfl)) rfl rfl rfl rfl rfl hr hl rfl ?_
 intro s1 k1 k2 k3
 refine run1 ?_
 refine Wo.val rfl (Xv.mark0 (fx (f := 71) (fn := Tryz.f71) (by kernel_rfl)) rfl rfl rfl) rfl (run1 ?_)
 exact Lv.nrm rfl ⟨k1, k2, k3⟩
theorem unlock_ok (hr : Rw s b l γ) (hl : l[o]? = some (.int .i32 1)) : Cl B (.call 24 [.pointer (some ⟨b, o, none⟩)]) s fun _ s' => Rw s' b (lov l o [.int .i32 0]) γ ∧ s'.nx = s.nx ∧ Kp (fun c => c = γ) s s' := by
 have hgd : good (some ⟨b, o, none⟩) := ⟨_, _, rfl⟩
 refine Cl.enter Tryz.f24 fn24 rfl rfl rfl ?_
 refine run1 ?_
 refine Wo.val rfl (Xv.nilC rfl) rfl (run1 ?_)
 refine Wo.call rfl (Xc.call ok46 rfl) rfl ((iunlock_ok hr hl).mono ?_)
 rintro v s' k
 refine run1 ?_
 exact Lv.nrm rfl k
end Go.Proofs.YtglilbadldocoaaGreatDoor
namespace Go.Sy
open Go Go.Ev
theorem Wo.mkM {X : Fx} {env : Env} {df : List Deferred} {s : St} {Q : Post} {all os : List Oper} {d : Option Nat} {ty : TypeId} {pos : String} {af : Array Edge} {gd : Option (Nat × Bool)} {t : Nat} (hg : wantsE all env gd = some true) (hd : dOk X d = true)
  (K : ∀ s', Mp s' s.nx [] → s'.nx = s.nx + 1 → Kn s s' → Wo X all os (up d (.map (some s.nx)) env) df s' Q) : Wo X all (⟨d, .makeMap t none, ty, pos, af, gd⟩ :: os) env df s Q := by
 obtain ⟨s', a, b, c, e⟩ := Xv.mkM (X := X) (env := env) (s := s) (t := t)
 exact Wo.val hg a hd (K s' b c e)
end Go.Sy
namespace Go.Proofs.YtglilbadldocoaaGreatDoor
open Go Go.Ev Go.Sy
set_option maxRecDepth 100000
variable {s : St} {p γ δ n c : Nat} {q : Option Addr} {S M A D O R : List Nat}
theorem HH : HT B.P 32 5 := ⟨B.un (t := 32) rfl, B.un (t := 5) rfl, B.sz (t := 5) rfl⟩
theorem HG : B.P.eqGuardType B.P.depth 32 = false := by kernel_rfl
theorem bmay_ok (_hn : n < 2 ^ 60) : Cl B (.call 29 [nI n]) s fun v s' => v = .bool (decide (8 ≤ n ∧ n ≤ 256)) ∧ s' = s := by
 refine Cl.enter Tryz.f29 fn29 rfl rfl rfl ?_
 by_cases h : 8 ≤ n
 ·refine run1 ?_
  refine Lv.ret rfl ⟨?_, rfl⟩
  exact congrArg Value.bool (decide_eq_decide.2 ⟨fun k => ⟨h, k⟩, fun k => k.2⟩)
 ·refine run1 ?_
  refine Lv.ret rfl ⟨?_, rfl⟩
  exact congrArg Value.bool (decide_eq_false fun k => h k.1).symm
theorem blank_ok (w0 : Wf s) : Cl B (.call 30 []) s fun v s' => ∃ r, v = .agg ⟨[.map (some r), nI 0]⟩ ∧ s.nx ≤ r ∧ Mp s' r [] ∧ Kn s s' := by
 refine Cl.enter Tryz.f30 fn30 rfl rfl rfl ?_
 refine run1 ?_
 refine mk_gen (M := fun s' => Wo _ _ _ _ _ s' _) fun s1 r1 n1 k1 => ?_
 have w1 : Wf s1 := k1.wf w0
 refine Wo.mkM rfl rfl fun s2 m2 n2 k2 => ?_
 have w2 : Wf s2 := k2.wf w1
 refine run1 ?_
 refine Wo.st rfl rfl rfl rfl rfl rfl rfl (by intro v hv; simp at hv; rcases hv with rfl | rfl <;> rfl) (r1.kp w1 k2 id) (by decide) fun s3 r3 n3 k3 => ?_
 have r3' : Rw s3 s.nx [.map (some s1.nx), nI 0] s.nx := r3
 refine run1 ?_
 have hcl := cell_at (B := B) (t := 76) rfl rfl r3' rfl rfl
 refine Lv.ret (vs := [.agg ⟨[.map (some s1.nx), nI 0]⟩]) ?_ ⟨s1.nx, rfl, by omega, m2.kp w2 k3 (by omega), (k1.call k2).app k3 (Nat.le_refl _)⟩
 show (match cell1 B.P (.pointer (some ⟨s.nx, 0, none⟩)) 76 s3, some [] with | some v, some vs => some (v :: vs) | _, _ => none) = _
 rw [hcl]
def bkV (nb cb : Nat) (S : List Nat) (r1 n1 r2 n2 r3 n3 : Nat) : List Value :=
 nI nb :: nI cb :: (S.map nB ++ [.int .i32 0, .int .u32 0, .map (some r1), nI n1, .map (some r2), nI n2, .map (some r3), nI n3])
theorem bk_len {nb cb r1 n1 r2 n2 r3 n3 : Nat} (hS : S.length = 32) : (bkV nb cb S r1 n1 r2 n2 r3 n3).length = 42 := by simp [bkV, hS]
variable {nb cb r1 n1 r2 n2 r3 n3 : Nat}
theorem bk_sec {z : List Nat} (h : z.length = 32) (hS : S.length = 32) : lov (bkV nb cb z r1 n1 r2 n2 r3 n3) 2 (S.map nB) = bkV nb cb S r1 n1 r2 n2 r3 n3 :=
 lov_app (a := [nI nb, nI cb]) (b := z.map nB) (c := [.int .i32 0, .int .u32 0, .map (some r1), nI n1, .map (some r2), nI n2, .map (some r3), nI n3]) (vs := S.map nB) (o := 2) rfl (by rw [List.length_map, List.length_map, h, hS])
theorem lov_right {a l vs : List Value} {i : Nat} : lov (a ++ l) (a.length + i) vs = a ++ lov l i vs := by
 unfold lov
 rw [List.take_length_add_append, Nat.add_assoc, List.drop_length_add_append, List.append_assoc]
theorem lov_one {l : List Value} {i : Nat} {v : Value} (h : i < l.length) : lov l i [v] = l.set i v := by
 rw [List.set_eq_take_append_cons_drop, if_pos h]; rfl
def bkT (nb cb : Nat) (S : List Nat) (l : List Value) : List Value := (nI nb :: nI cb :: S.map nB) ++ l
def bl (g : Int) (r1 n1 r2 n2 r3 n3 : Nat) : List Value := [.int .i32 g, .int .u32 0, .map (some r1), nI n1, .map (some r2), nI n2, .map (some r3), nI n3]
theorem bk_eq : bkV nb cb S r1 n1 r2 n2 r3 n3 = bkT nb cb S (bl 0 r1 n1 r2 n2 r3 n3) := by simp [bkV, bkT, bl]
theorem bkT_at {i : Nat} {l : List Value} (hS : S.length = 32) : (bkT nb cb S l)[34 + i]? = l[i]? := by
 unfold bkT
 rw [List.getElem?_append_right (by simp [hS])]
 simp [hS]
theorem bkT_set {i : Nat} {v : Value} {l : List Value} (hS : S.length = 32) (hi : i < l.length) : lov (bkT nb cb S l) (34 + i) [v] = bkT nb cb S (l.set i v) := by
 have := lov_right (a := nI nb :: nI cb :: S.map nB) (l := l) (vs := [v]) (i := i)
 rw [lov_one hi, show (nI nb :: nI cb :: S.map nB).length = 34 by simp [hS]] at this
 exact this
theorem bkT_len {l : List Value} (hS : S.length = 32) : (bkT nb cb S l).length = 34 + l.length := by simp [bkT, hS]; omega
theorem dnew_ok {nb cb : Nat} (w0 : Wf s) (hq : At s q (S.map nB)) (hS : S.length = 32) (h1 : 8 ≤ nb ∧ nb ≤ 256) (h2 : 8 ≤ cb ∧ cb ≤ 256) :
  Cl B (.call 13 [nI nb, nI cb, .slice q 32 c]) s fun v s' => ∃ b r1 r2 r3, v = .tuple ⟨[.pointer (some ⟨b, 0, none⟩), nI 0]⟩ ∧ Rw s' b (bkV nb cb S r1 0 r2 0 r3 0) b ∧ Mp s' r1 [] ∧ Mp s' r2 [] ∧ Mp s' r3 [] ∧ s.nx ≤ r1 ∧ r1 < r2 ∧ r2 < r3 ∧ r3 < b ∧ Kn s s' := by
 refine Cl.enter Tryz.f13 fn13 rfl rfl rfl ?_
 refine run1 ?_
 refine Wo.call rfl (Xc.call ok29 rfl) rfl ((bmay_ok (by omega)).mono ?_)
 rintro v s' ⟨rfl, e'⟩; rw [e']; clear e' s'
 rw [decide_eq_true h1]
 refine run1 ?_
 refine Wo.call rfl (Xc.call ok29 rfl) rfl ((bmay_ok (by omega)).mono ?_)
 rintro v s' ⟨rfl, e'⟩; rw [e']; clear e' s'
 rw [decide_eq_true h2]
 refine run1 ?_
 refine Wo.call rfl (Xc.call ok30 rfl) rfl ((blank_ok w0).mono ?_)
 rintro v s1 ⟨r1, rfl, g1, m1, k1⟩
 have w1 : Wf s1 := k1.wf w0
 refine run1 ?_
 refine Wo.call rfl (Xc.call ok30 rfl) rfl ((blank_ok w1).mono ?_)
 rintro v s2 ⟨r2, rfl, g2, m2, k2⟩
 have w2 : Wf s2 := k2.wf w1
 refine run1 ?_
 refine Wo.call rfl (Xc.call ok30 rfl) rfl ((blank_ok w2).mono ?_)
 rintro v s3 ⟨r3, rfl, g3, m3, k3⟩
 have w3 : Wf s3 := k3.wf w2
 have l1 := m1.lt w1
 have l2 := m2.lt w2
 have l3 := m3.lt w3
 obtain ⟨z, hz⟩ : ∃ z : List Nat, z = List.replicate 32 0 := ⟨_, rfl⟩
 refine Wo.val rfl (Xv.build (cs := bkV nb cb (List.replicate 32 0) r1 0 r2 0 r3 0) rfl rfl) rfl ?_
 rw [← hz]
 have hzl : z.length = 32 := by rw [hz]; rfl
 refine run1 ?_
 refine mkO (cs := bkV nb cb z r1 0 r2 0 r3 0) fun s4 q4 n4 k4 => ?_
 have w4 : Wf s4 := k4.wf w3
 have gd : good (some ⟨s3.nx, 0, none⟩) := good_b
 refine Wo.val rfl (Xv.nilC rfl) rfl (run1 ?_)
 refine Wo.val rfl (Xv.slP (b := s3.nx) (o := 2) rfl rfl rfl (by decide)).1 rfl (run1 ?_)
 have k04 : Kn s s4 := k1.call (k2.call (k3.call k4))
 refine Wo.cpy rfl rfl rfl rfl rfl rfl rfl q4 (hq.kn w0 k04) (by rw [List.length_map, hS]) one_nB (by rw [bk_len hzl]; decide) fun s5 q5 n5 k5 => ?_
 rw [show (S.map nB).take (min 32 32 * 1) = S.map nB from List.take_of_length_le (by rw [List.length_map, hS]; decide), bk_sec hzl hS] at q5
 refine run1 ?_
 have e1 := k1.le
 have e2 := k2.le
 have e3 := k3.le
 refine Lv.ret rfl ⟨s3.nx, r1, r2, r3, rfl, q5, ?_, ?_, ?_, g1, by omega, by omega, by omega, k04.app k5 (by omega)⟩
 ·exact ((m1.kp w1 (k2.call (k3.call k4)) id).kp w4 k5 (by omega))
 ·exact ((m2.kp w2 (k3.call k4) id).kp w4 k5 (by omega))
 ·exact ((m3.kp w3 k4 id).kp w4 k5 (by omega))
theorem codeOf_ok {b : Nat} {l : List Value} (w0 : Wf s) (hT : TabAt s) (hb : Rw s b (bkT nb cb S l) γ) (hS : S.length = 32) (hSb : ∀ x ∈ S, x < 256) (hq : At s q (A.map nB)) (hA : ∀ x ∈ A, x < 256) (hc : Cap A.length c 1) (hl : A.length < 2 ^ 50) (hcb : cb ≤ 256) :
  Cl B (.call 38 [.pointer (some ⟨b, 0, none⟩), .slice q A.length c]) s fun v s' => v = hsh (cutOf (hmc S A) cb) ∧ Kn s s' := by
 refine Cl.enter Tryz.f38 fn38 rfl rfl rfl ?_
 have gd : good (some ⟨b, 0, none⟩) := good_b
 refine run1 ?_
 refine mk_gen (cs := (List.replicate 32 0).map nB) (M := fun s' => W _ _ _ _ s' _) fun s1 r1 n1 k1 => ?_
 have w1 : Wf s1 := k1.wf w0
 refine W.dr [(0, .none, 0), (1, .none, 1), (2, .none, 3), (3, .none, 7), (4, .none, 0), (5, .makes, 16), (6, .acts, 63), (7, .none, 0), (8, .none, 128), (9, .none, 384), (10, .reads, 896), (11, .acts, 2047), (12, .acts, 4095)] (by kernel_rfl) rfl (run1 ?_)
 refine Wd.val rfl (Xv.nilC rfl) rfl (Nat.le_refl _) (run1 ?_)
 refine Wd.val rfl (Xv.slP (b := b) (o := 2) rfl rfl rfl (by decide)).1 rfl (Nat.le_refl _) (run1 ?_)
 refine mk_gen (M := fun s' => Wd _ _ _ _ _ _ s' _) fun s2 q2 n2 k2 => ?_
 have w2 : Wf s2 := k2.wf w1
 have k02 : Kn s s2 := k1.call k2
 have b2 := hb.kp w0 k02 id
 have aS : At s2 (some ⟨b, 2, none⟩) (S.map nB) := by
  have := (b2.sl (o := 2) (n := 32) (by rw [bkT_len hS]; omega)).at
  have e : ((bkT nb cb S l).drop 2).take 32 = S.map nB := by
   show (S.map nB ++ l).take 32 = _
   rw [List.take_append_of_le_length (by rw [List.length_map, hS]; decide), List.take_of_length_le (by rw [List.length_map, hS]; decide)]
  rwa [e] at this
 have mc := mcode_ok (s := s2) (q := some ⟨b, 2, none⟩) (c := sure 32) (d := sure 1) (r := some ⟨s1.nx, 0, none⟩) (S := S) (P := [(.slice q A.length c, A)]) w2 (hT.kpN w0 (k02.w)) aS (Cap.sure (by omega)) hSb (by omega) q2.ats (fun x hx => by rw [List.mem_singleton.1 hx]; exact ⟨q, c, rfl, hq.kn w0 k02, hc, hA⟩) (by simp; omega) (by show 1 < _; decide)
 rw [hS, show List.flatMap Prod.snd [(Value.slice q A.length c, A)] = A by simp] at mc
 refine Wd.call rfl (Xc.call ok59 rfl) rfl (mc.mono ?_)
 rintro v s3 ⟨rfl, k3⟩
 refine ⟨k3.le, ?_⟩
 have w3 : Wf s3 := k3.wf w2
 obtain ⟨F, hF⟩ : ∃ F, F = hmc S A := ⟨_, rfl⟩
 have hFl : F.length = 32 := by rw [hF]; exact hmc_length
 have hFb : ∀ x ∈ F, x < 256 := by rw [hF]; exact sumN_byte
 rw [← hF]
 have l1 : ldq s1 (qadd (some ⟨b, 0, none⟩) 1) = some (nI cb) := (hb.kp w0 k1 id).f1 rfl
 have l3 : ldq s3 (qadd (some ⟨b, 0, none⟩) 1) = some (nI cb) := (b2.kp w2 k3 id).f1 rfl
 refine run1 ?_
 refine Wd.val rfl (Xv.nilC rfl) rfl (Nat.le_refl _) (run1 ?_)
 refine Wd.call rfl (Xc.call ok58 rfl) rfl ((cut_ok w3 hFl hFb (by omega)).mono ?_)
 rintro v s4 ⟨rfl, k4⟩
 refine ⟨k4.le, ?_⟩
 have w4 : Wf s4 := k4.wf w3
 obtain ⟨G, hG⟩ : ∃ G, G = cutOf F cb := ⟨_, rfl⟩
 have hGl : G.length = 32 := by rw [hG]; exact ctN_length.trans hFl
 rw [← hG]
 have k14 : Kn s1 s4 := k2.call (k3.call k4)
 refine Wd.st rfl rfl rfl rfl rfl rfl (by rw [List.length_map, hGl]) one_nB (r1.kp w1 k14 id) (by rw [List.length_map, List.length_replicate]; decide) fun s7 r7 n7 k7 => ?_
 rw [lov_all (by rw [List.length_map, List.length_map, hGl, List.length_replicate])] at r7
 refine run1 ?_
 have hcl := cell_at (B := B) (t := 32) (n := 32) (k := .ar 32 5) rfl rfl r7 (by rw [List.length_map, hGl]) rfl
 refine Lv.ret (vs := [hsh G]) ?_ ⟨rfl, (k1.call k14).app k7 (Nat.le_refl _)⟩
 show (match cell1 B.P (.pointer (some ⟨s.nx, 0, none⟩)) 32 s7, some [] with | some v, some vs => some (v :: vs) | _, _ => none) = _
 rw [hcl]; rfl
theorem eqV_mp {r : Option Nat} : eqV 5 (.map r) (.map r) = true := by
 show (r == r) = true
 exact beq_self_eq_true r
theorem bs0_ok {r : Option Addr} {d : Nat} : Cl B (.call 95 [.slice none 0 0, .slice r A.length d, bcf]) s fun v s' => v = .tuple ⟨[nI 0, .bool false]⟩ ∧ s' = s := by
 refine Cl.enter Tryz.f95 fn95 rfl rfl rfl ?_
 refine run1 ?_
 refine W.loop (α := Unit) (fun _ => [(0, .slice none 0 0), (1, .slice r A.length d), (2, bcf), (8, nI 0), (9, nI 0), (10, nI 0)]) (fun _ => []) (fun _ => s)
  (fun _ => True) (fun _ => 0) () trivial (.cons rfl (.cons rfl (.cons rfl (.cons rfl (.cons rfl (.cons rfl .nil)))))) rfl rfl (by decide) ?_
 rintro ⟨⟩ _
 have h0 : ¬ 0 < 0 := by decide
 refine run1 ?_
 exact Lv.ret rfl ⟨rfl, rfl⟩
theorem zsl : zeroOf B.P 79 = some (.slice none 0 0) := by kernel_rfl
theorem place_ok {b o : Nat} {l : List Value} {r : Nat} {M : MpE} {H : List Nat} {ql : Option Addr} {m cl i : Nat} {f : Bool} (w0 : Wf s) (hb : Rw s b l γ) (hm : l[o]? = some (.map (some r))) (hM : Mp s r M) (hH : H.length = 32) (hV : (mget H M).getD (.slice none 0 0) = .slice ql m cl)
  (hs : ∀ s', Kn s s' → Cl B (.call 95 [.slice ql m cl, .slice q A.length c, bcf]) s' fun v s'' => v = .tuple ⟨[nI i, .bool f]⟩ ∧ s'' = s') :
  Cl B (.call 60 [.pointer (some ⟨b, o, none⟩), hsh H, .slice q A.length c]) s fun v s' => v = .tuple ⟨[nI i, .bool f]⟩ ∧ Kn s s' := by
 refine Cl.enter Tryz.f60 fn60 rfl rfl rfl ?_
 have gd : good (some ⟨b, o, none⟩) := good_b
 refine run1 ?_
 refine mk_gen (cs := H.map nB) (M := fun s' => W _ _ _ _ s' _) fun s1 r1 n1 k1 => ?_
 have w1 : Wf s1 := k1.wf w0
 have b1 := hb.kp w0 k1 id
 have lm : ldq s1 (qadd (some ⟨b, o, none⟩) 0) = some (.map (some r)) := by
  have := b1.f1 hm
  have e : qadd (some ⟨b, 0, none⟩) o = qadd (some ⟨b, o, none⟩) 0 := by show some (Addr.mk b (0 + o) none) = some (Addr.mk b (o + 0) none); rw [Nat.zero_add, Nat.add_zero]
  rw [e] at this; exact this
 have lh := r1.all (n := 32) (by rw [List.length_map, hH]) (by decide)
 have hM1 := hM.kp w0 k1 id
 refine W.dr [(0, .none, 0), (1, .none, 1), (2, .none, 3), (3, .reads, 7), (4, .reads, 0), (5, .reads, 31), (6, .none, 0), (7, .acts, 127), (8, .none, 255), (9, .none, 255), (10, .none, 1023), (11, .none, 2047)] (by kernel_rfl) rfl (run1 ?_)
 refine Wd.val rfl (Xv.nilC rfl) rfl (Nat.le_refl _) (run1 ?_)
 refine Wd.read rfl (Xv.ld rfl rfl rfl lm) rfl eqV_mp ⟨Xv.ld rfl rfl rfl lm, trivial⟩ ?_
 refine Wd.read rfl (Xv.ldN rfl rfl rfl lh) rfl eqV_h ⟨Xv.ldN rfl rfl rfl lh, trivial⟩ ?_
 have lk : ∀ {X : Fx} {env : Env} {x y : Operand}, X.B = B → ev env x = some (.map (some r)) → ev env y = some (hsh H) → Xv X (.lookup 74 x y false) env s1 (.slice ql m cl) s1 := fun {X env x y} hB hx hy => by
  have := Xv.look (X := X) (ok := false) (t := 74) (key := 32) (elt := 79) (e := 5) (z := .slice none 0 0) (by rw [hB]; rfl) (by show HT X.B.P _ _; rw [hB]; exact HH) (by show zeroOf X.B.P _ = _; rw [hB]; exact zsl) rfl hx hy hH hM1
  rw [← hV]; exact this
 refine Wd.read rfl (lk rfl rfl rfl) rfl eqV_slice ⟨lk rfl rfl rfl, trivial⟩ (run1 ?_)
 refine Wd.call rfl (Xc.call ok95 rfl) rfl ((hs s1 k1).mono ?_)
 rintro v s2 ⟨rfl, e'⟩; rw [e']; clear e' s2
 refine ⟨Nat.le_refl _, run1 ?_⟩
 exact Lv.ret rfl ⟨rfl, k1⟩
end Go.Proofs.YtglilbadldocoaaGreatDoor
