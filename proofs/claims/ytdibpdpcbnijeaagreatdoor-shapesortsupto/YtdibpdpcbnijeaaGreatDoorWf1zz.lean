import Derived.Test.YtdibpdpcbnijeaaGreatDoorHkzz
import Derived.Test.YtdibpdpcbnijeaaGreatDoorC1zz
import Derived.Test.YtdibpdpcbnijeaaGreatDoorCards
import Derived.Test.YtdibpdpcbnijeaaGreatDoorTie
import Derived.ProofKit
import Derived.OpenShut
import Derived.Deep.DeepHandedRow
import Derived.Lib.LaidTab
import Derived.Lib.LaidU8
/-
  What the rows list: the tables; a world for the witness.
-/
namespace Go.Proofs.YtdibpdpcbnijeaaGreatDoor.Dg
open Go Go.Ev Go.ChangeShapes Go.WideShapes Go.ChangeAt Go.RowKit
theorem own : ownKnob Tryz.prog.godebug = none := by kernel_rfl
theorem mixed : Tryz.prog.follows .mixedOrders = true := by kernel_rfl
theorem tab_of {W : World} {name : String} {k : IntKind} {zs : List Int} {g : Nat} {t e : TypeId} {n : Nat}
    (hg : Tryz.prog.globalNamed name = some g) (hty : (Tryz.prog.globals[g]?).map (·.type) = some t) (ht : Tryz.prog.underlying t = some (.array n e)) (he : Tryz.prog.underlying e = some (.int k)) (hce : Tryz.prog.cellsOf e = 1) (hct : Tryz.prog.cellsOf t = n)
    (h : Lib.VarReads Tryz.prog W name (Lib.tabData k zs)) : Lib.TabIs Tryz.prog W name k zs := by
  obtain ⟨g', t', cs, fuel, p, hg', ht', hvar, hd⟩ := h
  obtain rfl := Option.some.inj (hg.symm.trans hg')
  obtain rfl := Option.some.inj (hty.symm.trans ht')
  unfold Lib.TabIs
  rw [hvar, ← Lib.cells_of_tab ht he hce hct hd]
def HL : List Nat := [1779033703, 3144134277, 1013904242, 2773480762, 1359893119, 2600822924, 528734635, 1541459225]
def HV : List Value := HL.map fun n => .int .u32 (.ofNat n)
def HI : List Int := [1779033703, 3144134277, 1013904242, 2773480762, 1359893119, 2600822924, 528734635, 1541459225]
def KI : List Int := [1116352408, 1899447441, 3049323471, 3921009573, 961987163, 1508970993, 2453635748, 2870763221, 3624381080, 310598401, 607225278, 1426881987, 1925078388, 2162078206, 2614888103, 3248222580, 3835390401, 4022224774, 264347078, 604807628, 770255983, 1249150122, 1555081692, 1996064986, 2554220882, 2821834349, 2952996808, 3210313671, 3336571891, 3584528711, 113926993, 338241895, 666307205, 773529912, 1294757372, 1396182291, 1695183700, 1986661051, 2177026350, 2456956037, 2730485921, 2820302411, 3259730800, 3345764771, 3516065817, 3600352804, 4094571909, 275423344, 430227734, 506948616, 659060556, 883997877, 958139571, 1322822218, 1537002063, 1747873779, 1955562222, 2024104815, 2227730452, 2361852424, 2428436474, 2756734187, 3204031479, 3329325298]
/-- A table in memory. -/
theorem tab_heap {W : World} {name : String} {g : Nat} {zs : List Int} {ns : List Nat} (hg : Tryz.prog.globalNamed name = some g) (h : Lib.TabIs Tryz.prog W name .u32 zs) (hz : zs = ns.map fun n => ((n : Nat) : Int)) (hn : 0 < ns.length) :
    ∃ c t fr, W.heap[g]? = some (.cells c t fr) ∧ ∀ (i : Nat) (v : Value), (ns.map fun n => (Value.int .u32 (.ofNat n)))[i]? = some v → c[i]? = some v ∧ plain 1 v = true := by
  have hc : ∀ i, i < ns.length → W.cell? ⟨g, i, none⟩ = some (.int .u32 (.ofNat (ns.getD i 0))) := by
    intro i hi
    have := h.cell hg i (by rw [hz, List.length_map]; exact hi)
    rw [this, hz, List.getD_eq_getElem?_getD, List.getElem?_map, List.getD_eq_getElem?_getD, List.getElem?_eq_getElem hi]
    rfl
  have h0 := hc 0 hn
  unfold World.cell? at h0
  split at h0
  case h_2 => cases h0
  rename_i c t fr hw
  refine ⟨c, t, fr, hw, fun i v hv => ?_⟩
  rw [List.getElem?_map] at hv
  rcases Nat.lt_or_ge i ns.length with hi | hi
  · rw [List.getElem?_eq_getElem hi] at hv
    cases hv
    have h1 := hc i hi
    unfold World.cell? at h1
    rw [hw] at h1
    rw [List.getD_eq_getElem?_getD, List.getElem?_eq_getElem hi] at h1
    exact ⟨h1, rfl⟩
  · rw [List.getElem?_eq_none hi] at hv; cases hv
theorem gFirst : Tryz.prog.globalNamed "cairn/sha.first" = some 0 := by kernel_rfl
theorem gRoots : Tryz.prog.globalNamed "cairn/sha.roots" = some 1 := by kernel_rfl
theorem tFirst : (Tryz.prog.globals[0]?).map (·.type) = some 158 := by kernel_rfl
theorem tRoots : (Tryz.prog.globals[1]?).map (·.type) = some 184 := by kernel_rfl
theorem cells32 : Tryz.prog.cellsOf 93 = 1 := by kernel_rfl
theorem cells8 : Tryz.prog.cellsOf 158 = 8 := by kernel_rfl
theorem cells64 : Tryz.prog.cellsOf 184 = 64 := by kernel_rfl
def tabs : List (Nat × List Value) := [(0, HV), (1, KV)]
theorem tabs_met {W : World} {l : List (String × DataW Unit)} (h : laidMet Tryz.prog l W) (m1 : ("cairn/sha.first", Rows.laid_cairn_sha_first) ∈ l) (m2 : ("cairn/sha.roots", Rows.laid_cairn_sha_roots) ∈ l) :
    ∀ p ∈ tabs, p.1 < 1000 ∧ ∃ c t fr, W.heap[p.1]? = some (.cells c t fr) ∧ ∀ (i : Nat) (v : Value), p.2[i]? = some v → c[i]? = some v ∧ plain 1 v = true := by
  have t1 : Lib.TabIs Tryz.prog W "cairn/sha.first" .u32 HI := tab_of gFirst tFirst Tryz.underlying158 Tryz.underlying93 cells32 cells8 (Lib.laidMet.reads h m1)
  have t2 : Lib.TabIs Tryz.prog W "cairn/sha.roots" .u32 KI := tab_of gRoots tRoots Tryz.underlying184 Tryz.underlying93 cells32 cells64 (Lib.laidMet.reads h m2)
  intro p hp
  rcases List.mem_cons.1 hp with rfl | hp
  · exact ⟨by decide, tab_heap (ns := HL) gFirst t1 (by kernel_rfl) (by decide)⟩
  rcases List.mem_cons.1 hp with rfl | hp
  · exact ⟨by decide, tab_heap (ns := KL) gRoots t2 (by kernel_rfl) (by decide)⟩
  cases hp
def setCells (c : Array Value) : Obj → Obj
  | .cells _ t frozen => .cells c t frozen
  | o => o
/-- A WORLD FOR THE WITNESS: the settled one, the tables holding what their initialisers lay. -/
def LaidIs (os : Os) (V : World) : Prop := V = { World.holding Tryz.prog os ⟨#[], #[], []⟩ with heap := ((((World.holding Tryz.prog os ⟨#[], #[], []⟩).heap.modify 0 (setCells ⟨HV⟩)).modify 1 (setCells ⟨KV⟩))) }
end Go.Proofs.YtdibpdpcbnijeaaGreatDoor.Dg
/-
  The evaluator over any input: lists of entries.
-/
namespace Go.Sy
open Go Go.Ev
abbrev Ety := List Nat × List Nat
def key (E : List Ety) (i : Nat) : List Nat := (E.getD i ([], [])).1
def val (E : List Ety) (i : Nat) : List Nat := (E.getD i ([], [])).2
/-- A cell that is bytes. -/
def BsV (s : St) (v : Value) (A : List Nat) : Prop := ∃ q c, v = .slice q A.length c ∧ Bs s q A ∧ A.length < 2 ^ 60
theorem BsV.kn {s s' : St} {v : Value} {A : List Nat} (h : BsV s v A) (w : Wf s) (k : Kn s s') : BsV s' v A := let ⟨q, c, h1, h2, h3⟩ := h; ⟨q, c, h1, h2.kn w k, h3⟩
/-- Cells that are entries. -/
def Ent (s : St) : List Value → List Ety → Prop
  | [], [] => True
  | k :: v :: cs, e :: E => BsV s k e.1 ∧ BsV s v e.2 ∧ Ent s cs E
  | _, _ => False
theorem Ent.length {s : St} : ∀ {cs : List Value} {E : List Ety}, Ent s cs E → cs.length = E.length * 2
  | [], [], _ => rfl
  | [], _ :: _, h => h.elim
  | [_], [], h => h.elim
  | [_], _ :: _, h => h.elim
  | _ :: _ :: _, [], h => h.elim
  | _ :: _ :: cs, _ :: E, h => by have := Ent.length h.2.2; simp only [List.length_cons]; omega
theorem Ent.get {s : St} : ∀ {cs : List Value} {E : List Ety}, Ent s cs E → ∀ {i : Nat}, i < E.length → ∃ k v, cs[i * 2]? = some k ∧ cs[i * 2 + 1]? = some v ∧ BsV s k (key E i) ∧ BsV s v (val E i)
  | [], [], _, i, hi => by simp at hi
  | [], _ :: _, h, _, _ => h.elim
  | [_], [], h, _, _ => h.elim
  | [_], _ :: _, h, _, _ => h.elim
  | _ :: _ :: _, [], h, _, _ => h.elim
  | k :: v :: cs, e :: E, h, 0, _ => ⟨k, v, rfl, rfl, h.1, h.2.1⟩
  | k :: v :: cs, e :: E, h, i + 1, hi => by
    obtain ⟨k', v', h1, h2, h3, h4⟩ := Ent.get h.2.2 (i := i) (by simpa using hi)
    exact ⟨k', v', by rw [show (i + 1) * 2 = i * 2 + 1 + 1 by omega]; exact h1, by rw [show (i + 1) * 2 + 1 = i * 2 + 1 + 1 + 1 by omega]; exact h2, h3, h4⟩
theorem Ent.kn {s s' : St} (w : Wf s) (k : Kn s s') : ∀ {cs : List Value} {E : List Ety}, Ent s cs E → Ent s' cs E
  | [], [], _ => trivial
  | [], _ :: _, h => h.elim
  | [_], [], h => h.elim
  | [_], _ :: _, h => h.elim
  | _ :: _ :: _, [], h => h.elim
  | _ :: _ :: _cs, _ :: _E, h => ⟨h.1.kn w k, h.2.1.kn w k, Ent.kn w k h.2.2⟩
theorem Ent.app {s : St} {k v : Value} {e : Ety} : ∀ {cs : List Value} {E : List Ety}, Ent s cs E → BsV s k e.1 → BsV s v e.2 → Ent s (cs ++ [k, v]) (E ++ [e])
  | [], [], _, h1, h2 => ⟨h1, h2, trivial⟩
  | [], _ :: _, h, _, _ => h.elim
  | [_], [], h, _, _ => h.elim
  | [_], _ :: _, h, _, _ => h.elim
  | _ :: _ :: _, [], h, _, _ => h.elim
  | _ :: _ :: _cs, _ :: _E, h, h1, h2 => ⟨h.1, h.2.1, Ent.app h.2.2 h1 h2⟩
theorem Ent.one {s : St} : ∀ {cs : List Value} {E : List Ety}, Ent s cs E → ∀ v ∈ cs, one v = true
  | [], [], _, v, hv => by simp at hv
  | [], _ :: _, h, _, _ => h.elim
  | [_], [], h, _, _ => h.elim
  | [_], _ :: _, h, _, _ => h.elim
  | _ :: _ :: _, [], h, _, _ => h.elim
  | k :: v :: cs, e :: E, h, x, hx => by
    rcases List.mem_cons.1 hx with rfl | hx
    · obtain ⟨q, c, rfl, _⟩ := h.1; rfl
    · rcases List.mem_cons.1 hx with rfl | hx
      · obtain ⟨q, c, rfl, _⟩ := h.2.1; rfl
      · exact Ent.one h.2.2 x hx
/-- One entry's two lists, as they are loaded. -/
theorem Ent.ld {s : St} {q : Option Addr} {cs : List Value} {E : List Ety} (h : Ent s cs E) (ha : At s q cs) {i : Nat} (hi : i < E.length) :
    good q ∧ ∃ q1 c1 q2 c2, ldq s (qadd (qadd q (i * 2)) 0) = some (.slice q1 (key E i).length c1) ∧ ldq s (qadd (qadd q (i * 2)) 1) = some (.slice q2 (val E i).length c2) ∧ Bs s q1 (key E i) ∧ Bs s q2 (val E i) ∧ (key E i).length < 2 ^ 60 ∧ (val E i).length < 2 ^ 60 := by
  have hl := h.length
  obtain ⟨k, v, h1, h2, ⟨q1, c1, rfl, h3, h5⟩, ⟨q2, c2, rfl, h4, h6⟩⟩ := h.get hi
  refine ⟨At.good ha (i := i * 2) (by omega), q1, c1, q2, c2, ?_, ?_, h3, h4, h5, h6⟩
  · rw [qadd_qadd, At.ld ha (i := i * 2 + 0) (by omega), ← List.getElem?_eq_getElem]; exact h1
  · rw [qadd_qadd, At.ld ha (i := i * 2 + 1) (by omega), ← List.getElem?_eq_getElem]; exact h2
theorem ety_ext {E D : List Ety} (hl : E.length = D.length) (h : ∀ i, i < E.length → key E i = key D i ∧ val E i = val D i) : E = D := by
  refine List.ext_getElem hl fun i h1 h2 => ?_
  obtain ⟨a, b⟩ := h i h1
  unfold key val at *
  rw [List.getD_eq_getElem?_getD, List.getD_eq_getElem?_getD, List.getElem?_eq_getElem h1, List.getElem?_eq_getElem h2] at a b
  exact Prod.ext a b
end Go.Sy
/-
  The evaluator over any input: append in known room; lists that lie in a block of their own.
-/
namespace Go.Sy
open Go Go.Ev
theorem appc_ok {P : Program} {s : St} {e size : Nat} (hs : sizeOfT P e = some size) (hz : zeroFit P e size = true) {b n cap γ : Nat} {l : List Value} (hr : Rw s b l γ) {y : Value} {k : Nat} {new : List Value}
    (hk : lenOfV y = some k) (hy : cellsFrom s size k y = some new) (hl : new.length = k * size) (h1 : ∀ v ∈ new, one v = true) (hle : roomFor P e (n + k) = true) (hc : n + k ≤ cap) (hll : (n + k) * size ≤ l.length) :
    ∃ s', appendV P s e (.slice (some ⟨b, 0, none⟩) n (sure cap)) y = .ok (.val (.slice (some ⟨b, 0, none⟩) (n + k) (sure cap))) s' ∧ Rw s' b (lov l (n * size) new) γ ∧ s'.nx = s.nx ∧ Kp (fun x => x = γ) s s' := by
  obtain ⟨g, hr1, rfl⟩ := hr
  rw [Nat.add_mul] at hll
  obtain ⟨s', a1, a2, a3, a4⟩ := writeAt_ok hr1 (vs := new) (off := n * size) (by omega) h1
  refine ⟨s', ?_, ⟨g, a2, rfl⟩, a3, a4⟩
  have e0 : appendV P s e (.slice (some ⟨b, 0, none⟩) n (sure cap)) y = appendN P s e size (some ⟨b, 0, none⟩) n (sure cap) (n + k) new := by
    unfold appendV
    simp only [hs, hk, hy, fN_eq]
    rfl
  rw [e0]
  unfold appendN
  rw [hle, hz]
  show appendB s size b 0 n (sure cap) (n + k) new = _
  unfold appendB
  rw [cap_sure.1, show Nat.ble (n + k) cap = true from Nat.ble_eq_true_of_le hc]
  show (match writeAt s b (0 + n * size) new with | some s => Re.ok (.val (.slice (some ⟨b, 0, none⟩) (n + k) (sure cap))) s | none => .no) = _
  rw [Nat.zero_add, a1]
section
variable {X : Fx} {env : Env} {df : List Deferred} {s : St} {Q : Post} {all os : List Oper} {d : Option Nat} {ty : TypeId} {pos : String} {af : Array Edge} {g : Option (Nat × Bool)}
theorem Xv.appc {x y : Operand} {t u e n0 nu size : Nat} {z0 zu : Option (List Value)} {z : List Value} {t0 t1 tu : Nat} {ke ku : Sh} (ht : tk X.B.T t = some ⟨t0, n0, .sl e, z0⟩) (he : tk X.B.T e = some ⟨t1, size, ke, some z⟩) (hu : tk X.B.T u = some ⟨tu, nu, ku, zu⟩) (hn : notI ku = true)
    {b n cap : Nat} {v : Value} {γ k : Nat} {l new : List Value} (hx : ev env x = some (.slice (some ⟨b, 0, none⟩) n (sure cap))) (hy : ev env y = some v) (hr : Rw s b l γ) (hk : lenOfV v = some k) (hv : cellsFrom s size k v = some new) (hl : new.length = k * size) (h1 : ∀ v ∈ new, one v = true) {y0 : Nat} (hV : lkV X.B.V e = some y0) (hro : (2 * (n + k) + 768) * y0 ≤ 281474976710656) (hb : n + k ≤ 4611686018427387904) (hc : n + k ≤ cap) (hll : (n + k) * size ≤ l.length) :
    ∃ s', Xv X (.call ⟨.builtin .append, #[x, y], #[t, u]⟩) env s (.slice (some ⟨b, 0, none⟩) (n + k) (sure cap)) s' ∧ Rw s' b (lov l (n * size) new) γ ∧ s'.nx = s.nx ∧ Kp (fun x => x = γ) s s' := by
  obtain ⟨s', a, b1, c1, d1⟩ := appc_ok (P := X.P) (X.B.sz he) (X.B.zr he).2.2.2 hr hk hv hl h1 (X.B.room hV hro hb) hc hll
  refine ⟨s', fun tm hf => ?_, b1, c1, d1⟩
  show xAppend X.P [t, u] (opds tm [x, y]) s = _
  rw [evs_opds hf (xs := [x, y]) (vs := [.slice (some ⟨b, 0, none⟩) n (sure cap), v]) (by unfold evs evs evs; rw [hx, hy])]
  obtain ⟨td, hu1, hu2⟩ := und_notI (X.B.un hu) hn
  have ht1 : X.P.underlying t = some (.slice e) := X.B.un ht
  unfold xAppend
  simp only [ht1, show X.P.underlying u = some td from hu1]
  cases td <;> first | exact a | exact absurd rfl (hu2 _)
theorem Wo.appc {x y : Operand} {t u e n0 nu size : Nat} {z0 zu : Option (List Value)} {z : List Value} {t0 t1 tu : Nat} {ke ku : Sh} (hgd : wantsE all env g = some true) (ht : tk X.B.T t = some ⟨t0, n0, .sl e, z0⟩) (he : tk X.B.T e = some ⟨t1, size, ke, some z⟩) (hu : tk X.B.T u = some ⟨tu, nu, ku, zu⟩) (hn : notI ku = true) (hd : dOk X d = true)
    {b n cap : Nat} {v : Value} {γ k : Nat} {l new : List Value} (hx : ev env x = some (.slice (some ⟨b, 0, none⟩) n (sure cap))) (hy : ev env y = some v) (hr : Rw s b l γ) (hk : lenOfV v = some k) (hv : cellsFrom s size k v = some new) (hl : new.length = k * size) (h1 : ∀ v ∈ new, one v = true) {y0 : Nat} (hV : lkV X.B.V e = some y0) (hro : (2 * (n + k) + 768) * y0 ≤ 281474976710656) (hb : n + k ≤ 4611686018427387904) (hc : n + k ≤ cap) (hll : (n + k) * size ≤ l.length)
    (K : ∀ s', Rw s' b (lov l (n * size) new) γ → s'.nx = s.nx → Kp (fun x => x = γ) s s' → Wo X all os (up d (.slice (some ⟨b, 0, none⟩) (n + k) (sure cap)) env) df s' Q) : Wo X all (⟨d, .call ⟨.builtin .append, #[x, y], #[t, u]⟩, ty, pos, af, g⟩ :: os) env df s Q := by
  obtain ⟨s', a, b1, c1, d1⟩ := Xv.appc (X := X) (env := env) ht he hu hn hx hy hr hk hv hl h1 hV hro hb hc hll
  exact Wo.val hgd a hd (K s' b1 c1 d1)
theorem Wd.appc {i m : Nat} {L : List Sp} {past : Past} {x y : Operand} {t u e n0 nu size : Nat} {z0 zu : Option (List Value)} {z : List Value} {t0 t1 tu : Nat} {ke ku : Sh} (hgd : wantsE all env g = some true) (ht : tk X.B.T t = some ⟨t0, n0, .sl e, z0⟩) (he : tk X.B.T e = some ⟨t1, size, ke, some z⟩) (hu : tk X.B.T u = some ⟨tu, nu, ku, zu⟩) (hn : notI ku = true) (hd : dOk X d = true)
    {b n cap : Nat} {v : Value} {γ k : Nat} {l new : List Value} (hx : ev env x = some (.slice (some ⟨b, 0, none⟩) n (sure cap))) (hy : ev env y = some v) (hr : Rw s b l γ) (hk : lenOfV v = some k) (hv : cellsFrom s size k v = some new) (hl : new.length = k * size) (h1 : ∀ v ∈ new, one v = true) {y0 : Nat} (hV : lkV X.B.V e = some y0) (hro : (2 * (n + k) + 768) * y0 ≤ 281474976710656) (hb : n + k ≤ 4611686018427387904) (hc : n + k ≤ cap) (hll : (n + k) * size ≤ l.length)
    (K : ∀ s', Rw s' b (lov l (n * size) new) γ → s'.nx = s.nx → Kp (fun x => x = γ) s s' → Wd X all L ((some i, s') :: past) (up d (.slice (some ⟨b, 0, none⟩) (n + k) (sure cap)) env) df s' Q) : Wd X all (.mk .acts i ⟨d, .call ⟨.builtin .append, #[x, y], #[t, u]⟩, ty, pos, af, g⟩ m :: L) past env df s Q := by
  obtain ⟨s', a, b1, c1, d1⟩ := Xv.appc (X := X) (env := env) ht he hu hn hx hy hr hk hv hl h1 hV hro hb hc hll
  exact Wd.act hgd a hd (Nat.le_of_eq c1.symm) (K s' b1 c1 d1)
end
theorem ldq_kn {s s' : St} {p : Option Addr} {v : Value} (h : ldq s p = some v) (w : Wf s) (k : Kn s s') : ldq s' p = some v := by
  unfold ldq at h ⊢
  split at h
  case h_2 => cases h
  rename_i b o
  obtain ⟨hp, nx, gr⟩ := s
  have h' : readOb1 o (hp.get b) = some v := h
  cases hb : hp.get b with
  | none => rw [hb] at h'; cases h'
  | some ob =>
    have := k.kp w b ob hb id
    obtain ⟨hp', nx', gr'⟩ := s'
    have e : hp'.get b = some ob := this
    show readOb1 o (hp'.get b) = some v
    rw [e, ← hb]; exact h'
section
variable {X : Fx} {env : Env} {s : St}
/-- []byte of bytes that were just laid out. -/
theorem Xv.asB {t t0 n e : Nat} {z : Option (List Value)} {t1 n1 : Nat} {z1 : Option (List Value)} {x : Operand} {b o l c γ : Nat} {cs : List Value} (ht : tk X.B.T t = some ⟨t0, n, .sl e, z⟩) (he : tk X.B.T e = some ⟨t1, n1, .it .u8, z1⟩) (hx : ev env x = some (.slice (some ⟨b, o, none⟩) l c)) (hr : Rw s b cs γ) : Xv X (.convert t t x) env s (.slice (some ⟨b, o, none⟩) l c) s := fun tm hf => by
  obtain ⟨g, h1, _⟩ := hr
  show xConv X.P t t (opd tm x) s = _
  rw [ev_opd hf hx]
  have hu : X.P.underlying t = some (.slice e) := X.B.un ht
  have hv : X.P.underlying e = some (.int .u8) := X.B.un he
  unfold xConv
  simp only [hu, hv, isU8, Nat.beq_refl, Bool.and_true, cond]
  obtain ⟨hp, nx, gr⟩ := s
  have h1' : hp.get b = some (.row cs g) := h1
  unfold asBytes
  simp only [h1']
end
/-- A list from the beginning of a block of its own on, with what lies behind it: L of n, X behind. -/
structure Own (s : St) (v : Value) (A X : List Nat) (γ : Nat) : Prop where
  ex : ∃ b c, v = .slice (some ⟨b, 0, none⟩) A.length c ∧ Rw s b ((A ++ X).map nB) γ ∧ capOf c = A.length + X.length ∧ (capSure c = true → c = sure (capOf c))
  lt : A.length < 2 ^ 60
theorem Own.bs {s : St} {v : Value} {A X : List Nat} {γ : Nat} (h : Own s v A X γ) : BsV s v A := by
  obtain ⟨b, c, h1, h2, _, _⟩ := h.ex
  refine ⟨_, c, h1, ?_, h.lt⟩
  have := (h2.sl (o := 0) (n := A.length) (by simp)).at
  rwa [List.drop_zero, List.map_append, List.take_append_of_le_length (by simp), List.take_of_length_le (by simp)] at this
theorem Own.kp {C : Nat → Prop} {s s' : St} {v : Value} {A X : List Nat} {γ : Nat} (h : Own s v A X γ) (w : Wf s) (k : Kp C s s') (hc : ¬ C γ) : Own s' v A X γ :=
  ⟨let ⟨b, c, h1, h2, h3, h4⟩ := h.ex; ⟨b, c, h1, h2.kp w k hc, h3, h4⟩, h.lt⟩
theorem Own.ltn {s : St} {v : Value} {A X : List Nat} {γ : Nat} (h : Own s v A X γ) (w : Wf s) : γ < s.nx := let ⟨_, _, _, h2, _, _⟩ := h.ex; (h2.lt w).2
end Go.Sy
