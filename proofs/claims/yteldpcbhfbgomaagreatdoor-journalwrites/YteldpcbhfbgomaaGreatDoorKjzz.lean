import Derived.Test.YteldpcbhfbgomaaGreatDoorRazz
import Derived.Test.YteldpcbhfbgomaaGreatDoorMazz
import Derived.Test.YteldpcbhfbgomaaGreatDoorBbzz
import Derived.Test.YteldpcbhfbgomaaGreatDoorWslzz
namespace Go.Proofs.YteldpcbhfbgomaaGreatDoor
open Go Go.Ev Go.Sy
set_option maxRecDepth 100000
variable {s s0 : St} {p γ δ n c m N d : Nat} {q : Option Addr} {A D F : List Nat} {L cs : List Value}
def fS (b : List Nat) : List Nat := if b.length = 1 ∧ b.getD 0 0 < 128 then b else hd 128 b.length ++ b
def fL (c : List Nat) : List Nat := hd 192 c.length ++ c
def Fm (s : St) : Nat → List Value → List Nat → Prop
 | 0, _, _ => False
 | d + 1, cs, F => (∃ (q : Option Addr) (c : Nat) (b : List Nat) (q' : Option Addr) (c' : Nat), cs = [.bool false, .slice q b.length c, .slice q' 0 c'] ∧ At s q (b.map nB) ∧ b.length < 2 ^ 40 ∧ F = fS b) ∨
  ∃ (q : Option Addr) (c : Nat) (q' : Option Addr) (c' : Nat) (css : List (List Value)) (Fs : List (List Nat)), cs = [.bool true, .slice q' 0 c', .slice q Fs.length c] ∧ At s q css.flatten ∧ css.length = Fs.length ∧ Fs.length < 2 ^ 40 ∧ (∀ x ∈ css, x.length = 3) ∧ (∀ (i : Nat) (x : List Value) (G : List Nat), css[i]? = some x → Fs[i]? = some G → Fm s d x G) ∧ F = fL Fs.flatten
theorem At.kpN {s0 s : St} {q : Option Addr} {cs : List Value} (h : At s0 q cs) (w : Wf s0) (k : Kp (fun c => s0.nx ≤ c) s0 s) : At s q cs := by
 obtain ⟨γ, h1, h2⟩ := h.sl
 exact (h1.kp w k (by have := h2 w; omega)).at
theorem Fm.kpN (w : Wf s0) (k : Kp (fun c => s0.nx ≤ c) s0 s) : ∀ {d : Nat} {cs : List Value} {F : List Nat}, Fm s0 d cs F → Fm s d cs F
 | 0, _, _, h => absurd h id
 | d + 1, cs, F, h => by
  rcases h with ⟨q, c, b, q', c', e, h1, h2, h3⟩ | ⟨q, c, q', c', css, Fs, e, h1, h2, hl60, h3, h4, h5⟩
  ·exact .inl ⟨q, c, b, q', c', e, At.kpN h1 w k, h2, h3⟩
  ·exact .inr ⟨q, c, q', c', css, Fs, e, At.kpN h1 w k, h2, hl60, h3, fun i x G hx hG => Fm.kpN w k (h4 i x G hx hG), h5⟩
theorem Fm.kn {s' : St} (h : Fm s d cs F) (w : Wf s) (k : Kn s s') : Fm s' d cs F := Fm.kpN w (k.mono fun _ h => absurd h id) h
theorem Fm.len (h : Fm s d cs F) : cs.length = 3 ∧ ∀ v ∈ cs, one v = true := by
 cases d with
 | zero => exact absurd h id
 | succ d =>
  rcases h with ⟨q, c, b, q', c', rfl, _⟩ | ⟨q, c, q', c', css, Fs, rfl, _⟩
  ·exact ⟨rfl, by intro v hv; simp at hv; rcases hv with rfl | rfl | rfl <;> rfl⟩
  ·exact ⟨rfl, by intro v hv; simp at hv; rcases hv with rfl | rfl | rfl <;> rfl⟩
def z3 : List Value := [.bool false, .slice none 0 0, .slice none 0 0]
theorem flat3 : ∀ {css : List (List Value)}, (∀ x ∈ css, x.length = 3) → ∀ {i : Nat} {x : List Value}, css[i]? = some x → (css.flatten.drop (i * 3)).take 3 = x ∧ i * 3 + 3 ≤ css.flatten.length
 | [], _, i, x, h => by simp at h
 | y :: css, hl, 0, x, h => by
  simp at h
  subst h
  have := hl y (by simp)
  rw [List.flatten_cons]
  refine ⟨?_, by rw [List.length_append]; omega⟩
  rw [Nat.zero_mul, List.drop_zero, List.take_append_of_le_length (by omega), List.take_of_length_le (by omega)]
 | y :: css, hl, i + 1, x, h => by
  have hy := hl y (by simp)
  obtain ⟨h1, h2⟩ := flat3 (css := css) (fun x hx => hl x (by simp [hx])) (i := i) (x := x) (by simpa using h)
  rw [List.flatten_cons]
  refine ⟨?_, by rw [List.length_append]; omega⟩
  rw [show (i + 1) * 3 = 3 + i * 3 by omega, ← List.drop_drop, List.drop_left' hy]
  exact h1
theorem kid {css : List (List Value)} (h : At s q css.flatten) (hl : ∀ x ∈ css, x.length = 3) {i : Nat} {x : List Value} (hx : css[i]? = some x) : good q ∧ ldn s (qadd q (i * 3)) 3 = some x := by
 obtain ⟨h1, h2⟩ := flat3 hl hx
 exact ⟨h.good (i := i * 3) (by omega), by rw [h.ldn h2 (by decide), h1]⟩
theorem deeper_ok : ∀ {d m : Nat} {s : St} {cs : List Value} {F : List Nat}, Wf s → Fm s d cs F → d ≤ m → m < 2 ^ 40 → Cl B (.call 45 [.agg ⟨cs⟩, nI m]) s fun v s' => v = .bool false ∧ Kn s s'
 | 0, _, _, _, _, _, h, _, _ => absurd h id
 | d + 1, m, s, cs, F, w0, h, hd, hm => by
  refine Cl.enter Tryz.f45 fn45 rfl rfl rfl ?_
  refine run1 ?_
  refine mk_gen (cs := cs) (M := fun s' => Wo _ _ _ _ _ s' _) fun s1 r1 n1 k1 => ?_
  have w1 : Wf s1 := k1.wf w0
  have gd : good (some ⟨s.nx, 0, none⟩) := good_b
  rcases h with ⟨q, c, b, q', c', rfl, h1, h2, h3⟩ | ⟨q, c, q', c', css, Fs, rfl, h1, h2, hl60, h3, h4, h5⟩
  ·have l0 : ldq s1 (qadd (some ⟨s.nx, 0, none⟩) 0) = some (.bool false) := r1.f1 rfl
   refine run1 ?_
   exact Lv.ret rfl ⟨rfl, k1⟩
  ·have l0 : ldq s1 (qadd (some ⟨s.nx, 0, none⟩) 0) = some (.bool true) := r1.f1 rfl
   have l2 : ldq s1 (qadd (some ⟨s.nx, 0, none⟩) 2) = some (.slice q Fs.length c) := r1.f1 rfl
   have hm0 : ¬ m = 0 := by omega
   refine run1 ?_
   refine W.loop (α := Nat × St) (fun a => [(1, nI m), (13, .slice q Fs.length c), (14, nI Fs.length), (15, nI a.1)]) (fun _ => []) (fun a => a.2)
    (fun a => a.1 ≤ Fs.length ∧ Kn s1 a.2) (fun a => Fs.length - a.1) (0, s1) ⟨Nat.zero_le _, .refl⟩ (.cons rfl (.cons rfl (.cons rfl (.cons rfl .nil)))) rfl rfl (by show Fs.length - 0 < _; omega) ?_
   rintro ⟨i, t0⟩ ⟨i1, i2⟩
   simp only at i1 i2
   dsimp only
   have wt : Wf t0 := i2.wf w1
   by_cases hi : i < Fs.length
   ·have kt : Kn s t0 := k1.call i2
    obtain ⟨x, hx⟩ : ∃ x, css[i]? = some x := ⟨css[i]'(by omega), List.getElem?_eq_getElem _⟩
    obtain ⟨G, hG⟩ : ∃ G, Fs[i]? = some G := ⟨Fs[i]'hi, List.getElem?_eq_getElem _⟩
    have hF := h4 i x G hx hG
    obtain ⟨gq, lx⟩ := kid (h1.kn w0 kt) h3 hx
    obtain ⟨x3, x1⟩ := hF.len
    refine run1 ?_
    refine mk_gen (cs := z3) (M := fun s' => Wo _ _ _ _ _ s' _) fun t1 r2 n2 g1 => ?_
    have wt1 : Wf t1 := g1.wf wt
    refine Wo.st rfl rfl rfl rfl rfl rfl x3 x1 r2 (by decide) fun t2 r3 n3 g2 => ?_
    rw [lov_all (by rw [x3]; rfl)] at r3
    have k2 : Kn t0 t2 := g1.app g2 (Nat.le_refl _)
    have wt2 : Wf t2 := k2.wf wt
    have lt2 := r3.all (n := 3) x3 (by decide)
    refine run1 ?_
    refine Wo.call rfl (Xc.call ok45 rfl) rfl ((deeper_ok wt2 (hF.kn w0 (kt.call k2)) (by omega) (by omega)).mono ?_)
    rintro v t3 ⟨rfl, g3⟩
    refine run1 ?_
    exact rnd.n (i + 1, t3) ⟨hi, i2.call (k2.call g3)⟩ (by show Fs.length - (i + 1) < Fs.length - i; omega) (.cons rfl (.cons rfl (.cons rfl (.cons rfl .nil)))) rfl rfl
   ·refine run1 ?_
    exact Lv.ret rfl ⟨rfl, k1.call i2⟩
end Go.Proofs.YteldpcbhfbgomaaGreatDoor
namespace Go.Sy
open Go Go.Ev
def bcmp (A D : List Nat) : Int := Extern.BytealgCompare.cmp ⟨⟨A.map UInt8.ofNat⟩⟩ ⟨⟨D.map UInt8.ofNat⟩⟩
theorem bytesIn_at {s : St} {q : Option Addr} {A : List Nat} {c : Nat} (h : At s q (A.map nB)) : bytesIn s q A.length c = some (A.map UInt8.ofNat) := by
 unfold bytesIn
 rw [cells_at h (by rw [List.length_map, Nat.mul_one]) (by decide)]
 exact bytesOf_map A
section
variable {X : Fx} {env : Env} {s : St}
theorem Xv.bcmp {f : FuncId} {fn : Func} {x y : Operand} {ts : Array TypeId} {q r : Option Addr} {A D : List Nat} {c d : Nat} (hf : X.P.funcs[f]? = some fn) (hb : fn.body = none) (ho : (fn.origin == "") = true) (hn : (fn.name == "internal/bytealg.Compare") = true)
  (hx : ev env x = some (.slice q A.length c)) (hy : ev env y = some (.slice r D.length d)) (h1 : At s q (A.map nB)) (h2 : At s r (D.map nB)) : Xv X (.call ⟨.value (.func f), #[x, y], ts⟩) env s (.int .i64 (Go.Sy.bcmp A D)) s := fun tm hft => by
 show callE X.P f (appO [] (appO (opds tm [x, y]) [])) s = _
 rw [evs_opds hft (xs := [x, y]) (vs := [.slice q A.length c, .slice r D.length d]) (by unfold evs evs evs; rw [hx, hy]), appO_eq, appO_eq, List.append_nil, List.nil_append]
 unfold callE
 simp only [hf, hb, ho, cond_true]
 unfold extV
 simp only [hn, cond_true]
 rw [bytesIn_at h1, bytesIn_at h2]
 show fI (Go.Sy.bcmp A D) (fun n => Re.ok (.val (.int .i64 n)) s) = _
 rw [fI_eq]
end
end Go.Sy
namespace Go.Proofs.YteldpcbhfbgomaaGreatDoor
open Go Go.Ev Go.Sy
set_option maxRecDepth 100000
variable {s : St} {q r : Option Addr} {A D : List Nat} {c d : Nat}
theorem bcompare_ok (h1 : At s q (A.map nB)) (h2 : At s r (D.map nB)) : Cl B (.call 84 [.slice q A.length c, .slice r D.length d]) s fun v s' => v = .int .i64 (bcmp A D) ∧ s' = s := by
 refine Cl.enter Tryz.f84 fn84 rfl rfl rfl ?_
 refine run1 ?_
 refine Wo.val rfl (Xv.bcmp (show B.P.funcs[102]? = some Tryz.f102 by kernel_rfl) rfl rfl rfl rfl rfl h1 h2) rfl ?_
 obtain ⟨z, hz⟩ : ∃ z, z = bcmp A D := ⟨_, rfl⟩
 rw [← hz]
 refine run1 ?_
 exact Lv.ret rfl ⟨rfl, rfl⟩
abbrev bcf : Value := .func (.func 84) #[] #[]
def Strs (s : St) (q : Option Addr) (P : List (Value × List Nat)) : Prop := At s q (P.map Prod.fst) ∧ ∀ x ∈ P, ∃ q c, x.1 = .slice q x.2.length c ∧ At s q (x.2.map nB)
end Go.Proofs.YteldpcbhfbgomaaGreatDoor
namespace Go.Sy
open Go Go.Ev
section
variable {X : Fx} {env : Env} {s : St}
theorem Xv.mark0 {f : FuncId} {fn : Func} {ts : Array TypeId} (hf : X.P.funcs[f]? = some fn) (hb : fn.body = none) (ho : (fn.origin == "") = true) (hn : (fn.name == "internal/race.Disable" || fn.name == "internal/race.Enable") = true) : Xv X (.call ⟨.value (.func f), #[], ts⟩) env s (.tuple ⟨[]⟩) s := fun tm hft => by
 show callE X.P f [] s = _
 unfold callE
 simp only [hf, hb, ho, cond_true]
 unfold extV
 simp only [hn, cond_true]; rfl
theorem Xv.mark1 {f : FuncId} {fn : Func} {x : Operand} {ts : Array TypeId} {b o : Nat} (hf : X.P.funcs[f]? = some fn) (hb : fn.body = none) (ho : (fn.origin == "") = true) (hn : (fn.name == "internal/race.Acquire" || fn.name == "internal/race.ReleaseMerge") = true) (hx : ev env x = some (.pointer (some ⟨b, o, none⟩))) : Xv X (.call ⟨.value (.func f), #[x], ts⟩) env s (.tuple ⟨[]⟩) s := fun tm hft => by
 show callE X.P f (appO [] (appO (opds tm [x]) [])) s = _
 rw [evs_opds hft (xs := [x]) (vs := [.pointer (some ⟨b, o, none⟩)]) (by unfold evs evs; rw [hx]), appO_eq, appO_eq, List.append_nil, List.nil_append]
 unfold callE
 simp only [hf, hb, ho, cond_true]
 unfold extV
 simp only [hn, cond_true]; rfl
theorem Xv.raw {src dst t0 t1 n0 n1 e t2 n2 : Nat} {z0 z1 z2 : Option (List Value)} {k2 : Sh} {x : Operand} {b o : Nat} {v : Value} (hs : tk X.B.T src = some ⟨t0, n0, .pt e, z0⟩) (hd : tk X.B.T dst = some ⟨t1, n1, .un, z1⟩) (he : tk X.B.T e = some ⟨t2, n2, k2, z2⟩) (hn : Nat.blt 0 n2 = true) (hx : ev env x = some (.pointer (some ⟨b, o, none⟩))) (hr : readAt1 s b o = some v) : Xv X (.convert src dst x) env s (.pointer (some ⟨b, o, none⟩)) s := fun tm hf => by
 show xConv X.P src dst (opd tm x) s = _
 rw [ev_opd hf hx]
 unfold xConv
 simp only [show X.P.underlying src = some (.pointer e) from X.B.un hs, show X.P.underlying dst = some .unsafePointer from X.B.un hd, show sizeOfT X.P e = some n2 from X.B.sz he, hr]
 show cond (Nat.blt 0 n2) (toRaw b o (some v) s) .no = _
 rw [hn]; rfl
theorem Xv.cas {f : FuncId} {fn : Func} {x y z : Operand} {ts : Array TypeId} {b o γ : Nat} {l : List Value} {a c : Int} (hf : X.P.funcs[f]? = some fn) (hb : fn.body = none) (ho : (fn.origin == "") = true) (hn : (fn.name == "sync/atomic.CompareAndSwapInt32") = true) (hx : ev env x = some (.pointer (some ⟨b, o, none⟩))) (hy : ev env y = some (.int .i32 a)) (hz : ev env z = some (.int .i32 c)) (hr : Rw s b l γ) (hl : l[o]? = some (.int .i32 a)) :
  ∃ s', Xv X (.call ⟨.value (.func f), #[x, y, z], ts⟩) env s (.bool true) s' ∧ Rw s' b (lov l o [.int .i32 c]) γ ∧ s'.nx = s.nx ∧ Kp (fun c => c = γ) s s' := by
 have hol : o < l.length := (List.getElem?_eq_some_iff.1 hl).1
 have hr1 : readAt1 s b o = some (.int .i32 a) := by
  have h1 : At s (some ⟨b, 0, none⟩) l := by
   have := (hr.sl (o := 0) (n := l.length) (by omega)).at
   rwa [List.drop_zero, List.take_length] at this
  have := h1.ld hol
  rw [(List.getElem?_eq_some_iff.1 hl).2] at this
  have e : qadd (some ⟨b, 0, none⟩) o = some ⟨b, o, none⟩ := by show some (Addr.mk b (0 + o) none) = _; rw [Nat.zero_add]
  rw [e] at this
  exact this
 obtain ⟨g, hr2, rfl⟩ := hr
 obtain ⟨s', a1, a2, a3, a4⟩ := writeAt_ok hr2 (vs := [.int .i32 c]) (off := o) (by simp; omega) (by intro v hv; rw [List.mem_singleton] at hv; rw [hv]; rfl)
 refine ⟨s', fun tm hft => ?_, ⟨g, a2, rfl⟩, a3, a4⟩
 show callE X.P f (appO [] (appO (opds tm [x, y, z]) [])) s = _
 rw [evs_opds hft (xs := [x, y, z]) (vs := [.pointer (some ⟨b, o, none⟩), .int .i32 a, .int .i32 c]) (by unfold evs evs evs evs; rw [hx, hy, hz]), appO_eq, appO_eq, List.append_nil, List.nil_append]
 unfold callE
 simp only [hf, hb, ho, cond_true]
 unfold extV
 simp only [hn, cond_true]
 unfold casV
 rw [hr1]
 simp only [decide_true, cond_true, a1]
theorem Xv.addA {f : FuncId} {fn : Func} {x y : Operand} {ts : Array TypeId} {b o γ : Nat} {l : List Value} {a c d : Int} (hf : X.P.funcs[f]? = some fn) (hb : fn.body = none) (ho : (fn.origin == "") = true) (hn : (fn.name == "sync/atomic.AddInt32") = true) (hx : ev env x = some (.pointer (some ⟨b, o, none⟩))) (hy : ev env y = some (.int .i32 c)) (hr : Rw s b l γ) (hl : l[o]? = some (.int .i32 a)) (hd : IntKind.wrap .i32 (a + c) = d) :
  ∃ s', Xv X (.call ⟨.value (.func f), #[x, y], ts⟩) env s (.int .i32 d) s' ∧ Rw s' b (lov l o [.int .i32 d]) γ ∧ s'.nx = s.nx ∧ Kp (fun c => c = γ) s s' := by
 have hol : o < l.length := (List.getElem?_eq_some_iff.1 hl).1
 have hr1 : readAt1 s b o = some (.int .i32 a) := by
  have h1 : At s (some ⟨b, 0, none⟩) l := by
   have := (hr.sl (o := 0) (n := l.length) (by omega)).at
   rwa [List.drop_zero, List.take_length] at this
  have := h1.ld hol
  rw [(List.getElem?_eq_some_iff.1 hl).2] at this
  have e : qadd (some ⟨b, 0, none⟩) o = some ⟨b, o, none⟩ := by show some (Addr.mk b (0 + o) none) = _; rw [Nat.zero_add]
  rw [e] at this
  exact this
 obtain ⟨g, hr2, rfl⟩ := hr
 obtain ⟨s', a1, a2, a3, a4⟩ := writeAt_ok hr2 (vs := [.int .i32 d]) (off := o) (by simp; omega) (by intro v hv; rw [List.mem_singleton] at hv; rw [hv]; rfl)
 refine ⟨s', fun tm hft => ?_, ⟨g, a2, rfl⟩, a3, a4⟩
 show callE X.P f (appO [] (appO (opds tm [x, y]) [])) s = _
 rw [evs_opds hft (xs := [x, y]) (vs := [.pointer (some ⟨b, o, none⟩), .int .i32 c]) (by unfold evs evs evs; rw [hx, hy]), appO_eq, appO_eq, List.append_nil, List.nil_append]
 unfold callE
 simp only [hf, hb, ho, cond_true]
 unfold extV
 simp only [hn, cond_true]
 unfold addV
 rw [hr1]
 show addW s b o (some (.int .i32 (IntKind.wrap .i32 (a + c)))) = _
 rw [hd]
 show fI d (fun n => match writeAt s b o [.int .i32 n] with | some s => Re.ok (.val (.int .i32 n)) s | none => .no) = _
 rw [fI_eq, a1]
end
section
variable {X : Fx} {env : Env} {df : List Deferred} {s : St} {Q : Post} {all os : List Oper} {d : Option Nat} {ty : TypeId} {pos : String} {af : Array Edge} {gd : Option (Nat × Bool)}
theorem Wo.cas {f : FuncId} {fn : Func} {x y z : Operand} {ts : Array TypeId} {b o γ : Nat} {l : List Value} {a c : Int} (hg : wantsE all env gd = some true) (hdo : dOk X d = true) (hf : X.P.funcs[f]? = some fn) (hb : fn.body = none) (ho : (fn.origin == "") = true) (hn : (fn.name == "sync/atomic.CompareAndSwapInt32") = true) (hx : ev env x = some (.pointer (some ⟨b, o, none⟩))) (hy : ev env y = some (.int .i32 a)) (hz : ev env z = some (.int .i32 c)) (hr : Rw s b l γ) (hl : l[o]? = some (.int .i32 a))
  (K : ∀ s', Rw s' b (lov l o [.int .i32 c]) γ → s'.nx = s.nx → Kp (fun c => c = γ) s s' → Wo X all os (up d (.bool true) env) df s' Q) : Wo X all (⟨d, .call ⟨.value (.func f), #[x, y, z], ts⟩, ty, pos, af, gd⟩ :: os) env df s Q := by
 obtain ⟨s', k1, k2, k3, k4⟩ := Xv.cas (X := X) (ts := ts) hf hb ho hn hx hy hz hr hl
 exact Wo.val hg k1 hdo (K s' k2 k3 k4)
theorem Wo.addA {f : FuncId} {fn : Func} {x y : Operand} {ts : Array TypeId} {b o γ : Nat} {l : List Value} {a c e : Int} (hg : wantsE all env gd = some true) (hdo : dOk X d = true) (hf : X.P.funcs[f]? = some fn) (hb : fn.body = none) (ho : (fn.origin == "") = true) (hn : (fn.name == "sync/atomic.AddInt32") = true) (hx : ev env x = some (.pointer (some ⟨b, o, none⟩))) (hy : ev env y = some (.int .i32 c)) (hr : Rw s b l γ) (hl : l[o]? = some (.int .i32 a)) (hd : IntKind.wrap .i32 (a + c) = e)
  (K : ∀ s', Rw s' b (lov l o [.int .i32 e]) γ → s'.nx = s.nx → Kp (fun c => c = γ) s s' → Wo X all os (up d (.int .i32 e) env) df s' Q) : Wo X all (⟨d, .call ⟨.value (.func f), #[x, y], ts⟩, ty, pos, af, gd⟩ :: os) env df s Q := by
 obtain ⟨s', k1, k2, k3, k4⟩ := Xv.addA (X := X) (ts := ts) hf hb ho hn hx hy hr hl hd
 exact Wo.val hg k1 hdo (K s' k2 k3 k4)
end
end Go.Sy
namespace Go.Proofs.YteldpcbhfbgomaaGreatDoor
open Go Go.Ev Go.Sy
set_option maxRecDepth 100000
variable {s : St} {b o γ : Nat} {l : List Value}
theorem fx {f : FuncId} {fn : Func} (h : Tryz.prog.funcs[f]? = some fn) : B.P.funcs[f]? = some fn := h
theorem ilock_ok (_w0 : Wf s) (hr : Rw s b l γ) (hl : l[o]? = some (.int .i32 0)) : Cl B (.call 54 [.pointer (some ⟨b, o, none⟩)]) s fun _ s' => Rw s' b (lov l o [.int .i32 1]) γ ∧ s'.nx = s.nx ∧ Kp (fun c => c = γ) s s' := by
 have hgd : good (some ⟨b, o, none⟩) := ⟨_, _, rfl⟩
 refine Cl.enter Tryz.f54 fn54 rfl rfl rfl ?_
 refine run1 ?_
 refine Wo.val rfl (Xv.mark0 (fx (f := 69) (fn := Tryz.f69) (by kernel_rfl)) rfl rfl rfl) rfl (run1 ?_)
 refine Wo.val rfl (Xv.nilC rfl) rfl (run1 ?_)
 refine Wo.cas rfl rfl (fx (f := 70) (fn := Tryz.f70) (by kernel_rfl)) rfl rfl rfl rfl rfl rfl hr hl ?_
 intro s1 k1 k2 k3
 have k1' : Rw s1 b (lov l o [.int .i32 1]) γ := k1
 have hlen : o < l.length := (List.getElem?_eq_some_iff.1 hl).1
 have hrd : readAt1 s1 b o = some (.int .i32 1) := by
  have := (Rw.ats k1').ld (i := o) (by rw [lov_length (by simp; omega)]; exact hlen)
  rw [show (lov l o [Value.int .i32 1])[o]'(by rw [lov_length (by simp; omega)]; exact hlen) = .int .i32 1 by
   simp only [lov]; rw [List.getElem_append_right (by rw [List.length_take]; omega)]; simp [List.length_take, Nat.min_eq_left (Nat.le_of_lt hlen)]] at this
  have e : qadd (some ⟨b, 0, none⟩) o = some ⟨b, o, none⟩ := by show some (Addr.mk b (0 + o) none) = _; rw [Nat.zero_add]
  rw [e] at this
  exact this
 refine run1 ?_
 refine Wo.val rfl (Xv.mark0 (fx (f := 71) (fn := Tryz.f71) (by kernel_rfl)) rfl rfl rfl) rfl (run1 ?_)
 refine Wo.val rfl (Xv.raw rfl rfl rfl rfl rfl hrd) rfl (run1 ?_)
 refine Wo.val rfl (Xv.mark1 (fx (f := 72) (fn := Tryz.f72) (by kernel_rfl)) rfl rfl rfl rfl) rfl (run1 ?_)
 exact Lv.ret rfl ⟨k1', k2, k3⟩
theorem lock_ok (w0 : Wf s) (hr : Rw s b l γ) (hl : l[o]? = some (.int .i32 0)) : Cl B (.call 35 [.pointer (some ⟨b, o, none⟩)]) s fun _ s' => Rw s' b (lov l o [.int .i32 1]) γ ∧ s'.nx = s.nx ∧ Kp (fun c => c = γ) s s' := by
 have hgd : good (some ⟨b, o, none⟩) := ⟨_, _, rfl⟩
 refine Cl.enter Tryz.f35 fn35 rfl rfl rfl ?_
 refine run1 ?_
 refine Wo.val rfl (Xv.nilC rfl) rfl (run1 ?_)
 refine Wo.call rfl (Xc.call ok54 rfl) rfl ((ilock_ok w0 hr hl).mono ?_)
 rintro v s' k
 refine run1 ?_
 exact Lv.nrm rfl k
theorem Rw.rd1 {v : Value} (hr : Rw s b l γ) (hl : l[o]? = some v) : readAt1 s b o = some v := by
 have hol : o < l.length := (List.getElem?_eq_some_iff.1 hl).1
 have := (Rw.ats hr).ld hol
 rw [(List.getElem?_eq_some_iff.1 hl).2] at this
 have e : qadd (some ⟨b, 0, none⟩) o = some ⟨b, o, none⟩ := by show some (Addr.mk b (0 + o) none) = _; rw [Nat.zero_add]
 rw [e] at this
 exact this
theorem iunlock_ok (hr : Rw s b l γ) (hl : l[o]? = some (.int .i32 1)) : Cl B (.call 55 [.pointer (some ⟨b, o, none⟩)]) s fun _ s' => Rw s' b (lov l o [.int .i32 0]) γ ∧ s'.nx = s.nx ∧ Kp (fun c => c = γ) s s' := by
 have hgd : good (some ⟨b, o, none⟩) := ⟨_, _, rfl⟩
 have hrd := Rw.rd1 hr hl
 have hld : ldq s (qadd (some ⟨b, o, none⟩) 0) = some (.int .i32 1) := hrd
 refine Cl.enter Tryz.f55 fn55 rfl rfl rfl ?_
 refine run1 ?_
 refine Wo.val rfl (Xv.nilC rfl) rfl (run1 ?_)
 refine Wo.val rfl (Xv.raw rfl rfl rfl rfl rfl hrd) rfl (run1 ?_)
 refine Wo.val rfl (Xv.mark1 (fx (f := 74) (fn := Tryz.f74) (by kernel_rfl)) rfl rfl rfl rfl) rfl (run1 ?_)
 refine Wo.val rfl (Xv.mark0 (fx (f := 69) (fn := Tryz.f69) (by kernel_rfl)) rfl rfl rfl) rfl (run1 ?_)
 refine Wo.val rfl (Xv.nilC rfl) rfl (run1 ?_)
 refine Wo.addA (e := 0) rfl rfl (fx (f := 75) (fn := Tryz.f75) (by kernel_rfl)) rfl rfl rfl rfl rfl hr hl rfl ?_
 intro s1 k1 k2 k3
 refine run1 ?_
 refine Wo.val rfl (Xv.mark0 (fx (f := 71) (fn := Tryz.f71) (by kernel_rfl)) rfl rfl rfl) rfl (run1 ?_)
 exact Lv.nrm rfl ⟨k1, k2, k3⟩
theorem unlock_ok (hr : Rw s b l γ) (hl : l[o]? = some (.int .i32 1)) : Cl B (.call 36 [.pointer (some ⟨b, o, none⟩)]) s fun _ s' => Rw s' b (lov l o [.int .i32 0]) γ ∧ s'.nx = s.nx ∧ Kp (fun c => c = γ) s s' := by
 have hgd : good (some ⟨b, o, none⟩) := ⟨_, _, rfl⟩
 refine Cl.enter Tryz.f36 fn36 rfl rfl rfl ?_
 refine run1 ?_
 refine Wo.val rfl (Xv.nilC rfl) rfl (run1 ?_)
 refine Wo.call rfl (Xc.call ok55 rfl) rfl ((iunlock_ok hr hl).mono ?_)
 rintro v s' k
 refine run1 ?_
 exact Lv.nrm rfl k
open Go Go.Ev Go.Sy
set_option maxRecDepth 100000
variable {s : St} {q r : Option Addr} {c d : Nat} {M N : List Nat}
theorem clone_ok (w : Wf s) (ha : Bs s q M) (hA : M.length < 2 ^ 47 - 1024) :
  Cl B (.call 68 [.slice q M.length c]) s fun v s' => ∃ q' c' γ, v = .slice q' M.length c' ∧ Gw s' q' M.length c' 1 (M.map nB) γ ∧ Kn s s' ∧ s.nx ≤ γ := by
 refine Cl.enter Tryz.f68 fn68 rfl rfl rfl ?_
 by_cases hq : q = none
 ·refine run1 ?_
  subst hq
  have hM := ha.nil_of
  subst hM
  exact Lv.ret rfl ⟨none, 0, s.nx, rfl, Gw.nil, .refl, Nat.le_refl _⟩
 ·refine run1 ?_
  refine Wo.app rfl rfl rfl rfl rfl rfl rfl rfl rfl (mkRow_wf w) (Gw.mk0 rfl) rfl (ha.kn w mkRow_kn).cells (by simp) one_nB rfl (by omega) (by omega) ?_
  intro q' c' γ' s' h1 h2 h3
  refine run1 ?_
  refine Lv.ret rfl ⟨q', c', γ', ?_, by rwa [Nat.zero_add] at h1, Kn.app mkRow_kn h2 (Nat.le_refl _), ?_⟩
  ·show Value.slice q' (0 + M.length) c' = _; rw [Nat.zero_add]
  ·rcases h3 with h | ⟨h, _⟩
   ·exact Nat.le_of_eq h.symm
   ·rw [h]; exact Nat.le_succ _
open Go Go.Ev Go.Sy
set_option maxRecDepth 100000
variable {s : St} {q r : Option Addr} {c d : Nat} {M N : List Nat}
theorem roomy_ok (w : Wf s) (ha : Bs s q M) (hA : M.length < 2 ^ 47 - 1024) :
  Cl B (.call 19 [.slice q M.length c]) s fun v s' => ∃ b c' γ, v = .slice (some ⟨b, 0, none⟩) M.length c' ∧ Rw s' b ((M ++ [77, 78, 79]).map nB) γ ∧ (c' = least (M.length + 3) 1 ∨ c' = sure (M.length + 3)) ∧ Kn s s' ∧ s.nx ≤ γ := by
 refine Cl.enter Tryz.f19 fn19 rfl rfl rfl ?_
 refine run1 ?_
 refine Wo.app rfl rfl rfl rfl rfl rfl rfl rfl rfl (mkRow_wf w) (Gw.mk0 rfl) rfl (ha.kn w mkRow_kn).cells (by simp) one_nB rfl (by omega) (by omega) ?_
 intro q' c' γ' s' h1 h2 h3
 have k1 : Kn s s' := Kn.app mkRow_kn h2 (Nat.le_refl _)
 have w1 := k1.wf w
 have g1 : s.nx ≤ γ' := by
  rcases h3 with h | ⟨h, _⟩
  ·exact Nat.le_of_eq h.symm
  ·rw [h]; exact Nat.le_succ _
 refine run1 ?_
 refine Wo.app rfl rfl rfl rfl rfl rfl rfl rfl rfl (mkRow_wf w1) (h1.kp w1 (mkRow_kn (cs := [nB 77, nB 78, nB 79])) id) rfl (cells_at mkRow_sl.at rfl (by decide)) rfl (by intro v hv; exact one_nB (A := [77, 78, 79]) v hv) rfl (by omega) (by omega) ?_
 intro q2 c2 γ2 s2 j1 j2 j3
 have k2 : Kn s s2 := Kn.app (k1.trans mkRow_kn) j2 g1
 have e : (0 + M.length + 3) = M.length + 3 := by omega
 rw [e] at j1 ⊢
 have j1' : Gw s2 q2 (M.length + 3) c2 1 (M.map nB ++ [nB 77, nB 78, nB 79]) γ2 := j1
 obtain ⟨b, rfl, hr, hcap⟩ := j1'.rw (by omega)
 obtain ⟨hc1, hc2⟩ := cap_ok hcap (by omega)
 refine run1 ?_
 refine Wo.val rfl (Xv.sl0 rfl rfl rfl rfl (by omega) hc2) rfl ?_
 refine run1 ?_
 refine Lv.ret rfl ⟨b, c2, γ2, rfl, by rw [List.map_append]; exact hr, hcap, k2, ?_⟩
 rcases j3 with h | ⟨h, _⟩
 ·rw [h]; exact g1
 ·rw [h]; exact Nat.le_trans k1.le (Nat.le_succ _)
open Go Go.Ev Go.RowKit
set_option maxRecDepth 1000000 in
theorem whole : isT (run Tryz.prog Dg.hooks 400 (.call 6 []) (.mk (tables Dg.tabs) 1000 .nil)) = true := by kernel_rfl
end Go.Proofs.YteldpcbhfbgomaaGreatDoor
