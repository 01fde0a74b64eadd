import Derived.Test.YtglilbadldocoaaGreatDoorCards
import Derived.Test.YtglilbadldocoaaGreatDoorTie
import Derived.ProofKit
import Derived.OpenShut
import Derived.Deep.DeepHandedRow
import Derived.Lib.LaidTab
import Derived.Lib.LaidU8
import Derived.Test.YtglilbadldocoaaGreatDoorHlzz
import Derived.Test.YtglilbadldocoaaGreatDoorHizz
namespace Go.Proofs.YtglilbadldocoaaGreatDoor.Dg
open Go Go.ChangeShapes Go.WideShapes Go.ChangeAt Go.RowKit
def KN : List Value := [.int .i64 (.ofNat 1), .int .i64 (.ofNat 0), .int .i64 (.ofNat 0), .bool true, .int .i64 (.ofNat 2), .int .i64 (.ofNat 1), .int .i64 (.ofNat 32), .bool false]
theorem gKinds : Tryz.prog.globalNamed "cairn/journal.kinds" = some 1 := by kernel_rfl
theorem tKinds : (Tryz.prog.globals[1]?).map (·.type) = some 152 := by kernel_rfl
set_option maxRecDepth 100000 in
theorem kinds_row {H : Type} {enc : TypeId × Value → H} {w : World} {base : Nat} {sp : Nat → Bool} {held : Bool} {fuel : Nat} {x : DataW H × List MemPlace} {a b c d : Value} {z1 z2 z3 : Int} {t : Bool}
  (h : DataW.trod enc Tryz.prog w base sp held fuel 112 [a, b, c, d] = some x) (hx : x.1 = .agg [.lit (.int .i64 z1), .lit (.int .i64 z2), .lit (.int .i64 z3), .lit (.bool t)]) :
  a = .int .i64 z1 ∧ b = .int .i64 z2 ∧ c = .int .i64 z3 ∧ d = .bool t := by
 obtain ⟨xs, m, _, rfl, _, hn, hf⟩ := DataW.trod_struct (fs := _) (show Tryz.prog.underlying 112 = some (.struct _) from Tryz.underlying112) h
 obtain ⟨x0, x1, x2, x3, rfl⟩ : ∃ x0 x1 x2 x3, xs = [x0, x1, x2, x3] := by
  match xs, hn with
  | [x0, x1, x2, x3], _ => exact ⟨x0, x1, x2, x3, rfl⟩
 have h0 := hf 0 _ rfl
 have h1 := hf 1 _ rfl
 have h2 := hf 2 _ rfl
 have h3 := hf 3 _ rfl
 simp only [List.getElem?_cons_zero, List.getElem?_cons_succ] at h0 h1 h2 h3
 obtain ⟨n0, e0, r0, _⟩ := DataW.trod_int Tryz.underlying3 h0
 obtain ⟨n1, e1, r1, _⟩ := DataW.trod_int Tryz.underlying2 h1
 obtain ⟨n2, e2, r2, _⟩ := DataW.trod_int Tryz.underlying3 h2
 obtain ⟨n3, e3, r3⟩ := DataW.trod_bool Tryz.underlying4 h3
 subst r0 r1 r2 r3
 cases e0; cases e1; cases e2; cases e3
 simp only [List.map, DataW.agg.injEq, List.cons.injEq, DataW.lit.injEq, Lit.int.injEq, Lit.bool.injEq, true_and, and_true] at hx
 obtain ⟨rfl, rfl, rfl, rfl⟩ := hx
 exact ⟨rfl, rfl, rfl, rfl⟩
set_option maxRecDepth 100000 in
theorem kinds_cells {H : Type} {enc : TypeId × Value → H} {w : World} {base : Nat} {sp : Nat → Bool} {held : Bool} {fuel : Nat} {cs : List Value} {p : List MemPlace}
  (h : DataW.trod enc Tryz.prog w base sp held fuel 152 cs = some (Rows.laid_cairn_journal_kinds, p)) : cs = KN := by
 obtain ⟨xs, m, _, hx, hl, hn, hf⟩ := DataW.trod_array Tryz.underlying152 h
 obtain ⟨x0, x1, rfl⟩ : ∃ x0 x1, xs = [x0, x1] := by
  match xs, hn with
  | [x0, x1], _ => exact ⟨x0, x1, rfl⟩
 have c0 : Tryz.prog.cellsOf 152 = 8 := by kernel_rfl
 have c1 : Tryz.prog.cellsOf 112 = 4 := by kernel_rfl
 rw [c0] at hl
 match cs, hl with
 | [a0, a1, a2, a3, a4, a5, a6, a7], _ =>
  have h0 := hf 0 (by decide)
  have h1 := hf 1 (by decide)
  rw [c1] at h0 h1
  have hx1 := congrArg Prod.fst hx
  unfold Rows.laid_cairn_journal_kinds at hx1
  simp only [List.map, DataW.agg.injEq, List.cons.injEq, and_true] at hx1
  obtain ⟨rfl, rfl, rfl, rfl⟩ := kinds_row h0 hx1.1.symm
  obtain ⟨rfl, rfl, rfl, rfl⟩ := kinds_row h1 hx1.2.symm
  rfl
set_option maxRecDepth 100000 in
theorem kinds_met {W : World} {l : List (String × DataW Unit)} (h : laidMet Tryz.prog l W) (m1 : ("cairn/journal.kinds", Rows.laid_cairn_journal_kinds) ∈ l) : ∀ i, W.cell? ⟨1, i, none⟩ = KN[i]? := by
 obtain ⟨g', t', cs, fuel, p, hg', ht', hvar, hd⟩ := Lib.laidMet.reads h m1
 obtain rfl := Option.some.inj (gKinds.symm.trans hg')
 obtain rfl := Option.some.inj (tKinds.symm.trans ht')
 intro i
 have := World.var?_cell gKinds hvar i
 rw [this]
 rw [← kinds_cells hd]
 simp
open Go Go.Ev Go.ChangeShapes Go.WideShapes Go.ChangeAt Go.RowKit
theorem own : ownKnob Tryz.prog.godebug = none := by kernel_rfl
theorem mixed : Tryz.prog.follows .mixedOrders = true := by kernel_rfl
theorem tab_of {W : World} {name : String} {k : IntKind} {zs : List Int} {g : Nat} {t e : TypeId} {n : Nat}
  (hg : Tryz.prog.globalNamed name = some g) (hty : (Tryz.prog.globals[g]?).map (·.type) = some t) (ht : Tryz.prog.underlying t = some (.array n e)) (he : Tryz.prog.underlying e = some (.int k)) (hce : Tryz.prog.cellsOf e = 1) (hct : Tryz.prog.cellsOf t = n)
  (h : Lib.VarReads Tryz.prog W name (Lib.tabData k zs)) : Lib.TabIs Tryz.prog W name k zs := by
 obtain ⟨g', t', cs, fuel, p, hg', ht', hvar, hd⟩ := h
 obtain rfl := Option.some.inj (hg.symm.trans hg')
 obtain rfl := Option.some.inj (hty.symm.trans ht')
 unfold Lib.TabIs
 rw [hvar, ← Lib.cells_of_tab ht he hce hct hd]
def HL : List Nat := [1779033703, 3144134277, 1013904242, 2773480762, 1359893119, 2600822924, 528734635, 1541459225]
def HV : List Value := HL.map fun n => .int .u32 (.ofNat n)
def HI : List Int := [1779033703, 3144134277, 1013904242, 2773480762, 1359893119, 2600822924, 528734635, 1541459225]
def KI : List Int := [1116352408, 1899447441, 3049323471, 3921009573, 961987163, 1508970993, 2453635748, 2870763221, 3624381080, 310598401, 607225278, 1426881987, 1925078388, 2162078206, 2614888103, 3248222580, 3835390401, 4022224774, 264347078, 604807628, 770255983, 1249150122, 1555081692, 1996064986, 2554220882, 2821834349, 2952996808, 3210313671, 3336571891, 3584528711, 113926993, 338241895, 666307205, 773529912, 1294757372, 1396182291, 1695183700, 1986661051, 2177026350, 2456956037, 2730485921, 2820302411, 3259730800, 3345764771, 3516065817, 3600352804, 4094571909, 275423344, 430227734, 506948616, 659060556, 883997877, 958139571, 1322822218, 1537002063, 1747873779, 1955562222, 2024104815, 2227730452, 2361852424, 2428436474, 2756734187, 3204031479, 3329325298]
theorem tab_heap {W : World} {name : String} {g : Nat} {zs : List Int} {ns : List Nat} (hg : Tryz.prog.globalNamed name = some g) (h : Lib.TabIs Tryz.prog W name .u32 zs) (hz : zs = ns.map fun n => ((n : Nat) : Int)) (hn : 0 < ns.length) :
  ∃ c t fr, W.heap[g]? = some (.cells c t fr) ∧ ∀ (i : Nat) (v : Value), (ns.map fun n => (Value.int .u32 (.ofNat n)))[i]? = some v → c[i]? = some v ∧ plain 1 v = true := by
 have hc : ∀ i, i < ns.length → W.cell? ⟨g, i, none⟩ = some (.int .u32 (.ofNat (ns.getD i 0))) := by
  intro i hi
  have := h.cell hg i (by rw [hz, List.length_map]; exact hi)
  rw [this, hz, List.getD_eq_getElem?_getD, List.getElem?_map, List.getD_eq_getElem?_getD, List.getElem?_eq_getElem hi]
  rfl
 have h0 := hc 0 hn
 unfold World.cell? at h0
 split at h0
 case h_2 => cases h0
 rename_i c t fr hw
 refine ⟨c, t, fr, hw, fun i v hv => ?_⟩
 rw [List.getElem?_map] at hv
 rcases Nat.lt_or_ge i ns.length with hi | hi
 ·rw [List.getElem?_eq_getElem hi] at hv
  cases hv
  have h1 := hc i hi
  unfold World.cell? at h1
  rw [hw] at h1
  rw [List.getD_eq_getElem?_getD, List.getElem?_eq_getElem hi] at h1
  exact ⟨h1, rfl⟩
 ·rw [List.getElem?_eq_none hi] at hv; cases hv
theorem gFirst : Tryz.prog.globalNamed "cairn/sha.first" = some 2 := by kernel_rfl
theorem gRoots : Tryz.prog.globalNamed "cairn/sha.roots" = some 3 := by kernel_rfl
theorem tFirst : (Tryz.prog.globals[2]?).map (·.type) = some 185 := by kernel_rfl
theorem tRoots : (Tryz.prog.globals[3]?).map (·.type) = some 205 := by kernel_rfl
theorem cells32 : Tryz.prog.cellsOf 69 = 1 := by kernel_rfl
theorem cells8 : Tryz.prog.cellsOf 185 = 8 := by kernel_rfl
theorem cells64 : Tryz.prog.cellsOf 205 = 64 := by kernel_rfl
def tabs : List (Nat × List Value) := [(1, KN), (2, HV), (3, KV)]
theorem kinds_heap {W : World} (h : ∀ i, W.cell? ⟨1, i, none⟩ = KN[i]?) : ∃ c t fr, W.heap[1]? = some (.cells c t fr) ∧ ∀ (i : Nat) (v : Value), KN[i]? = some v → c[i]? = some v ∧ plain 1 v = true := by
 have h0 := h 0
 unfold World.cell? at h0
 split at h0
 case h_2 => cases h0
 rename_i c t fr hw
 refine ⟨c, t, fr, hw, fun i v hv => ?_⟩
 have h1 := h i
 unfold World.cell? at h1
 rw [hw, hv] at h1
 exact ⟨h1, List.all_eq_true.1 (show KN.all (plain 1) = true by kernel_rfl) v (List.mem_of_getElem? hv)⟩
theorem tabs_met {W : World} {l : List (String × DataW Unit)} (h : laidMet Tryz.prog l W) (m0 : ("cairn/journal.kinds", Rows.laid_cairn_journal_kinds) ∈ l) (m1 : ("cairn/sha.first", Rows.laid_cairn_sha_first) ∈ l) (m2 : ("cairn/sha.roots", Rows.laid_cairn_sha_roots) ∈ l) :
  ∀ p ∈ tabs, p.1 < 1000 ∧ ∃ c t fr, W.heap[p.1]? = some (.cells c t fr) ∧ ∀ (i : Nat) (v : Value), p.2[i]? = some v → c[i]? = some v ∧ plain 1 v = true := by
 have t1 : Lib.TabIs Tryz.prog W "cairn/sha.first" .u32 HI := tab_of gFirst tFirst Tryz.underlying185 Tryz.underlying69 cells32 cells8 (Lib.laidMet.reads h m1)
 have t2 : Lib.TabIs Tryz.prog W "cairn/sha.roots" .u32 KI := tab_of gRoots tRoots Tryz.underlying205 Tryz.underlying69 cells32 cells64 (Lib.laidMet.reads h m2)
 intro p hp
 rcases List.mem_cons.1 hp with rfl | hp
 ·exact ⟨by decide, kinds_heap (kinds_met h m0)⟩
 rcases List.mem_cons.1 hp with rfl | hp
 ·exact ⟨by decide, tab_heap (ns := HL) gFirst t1 (by kernel_rfl) (by decide)⟩
 rcases List.mem_cons.1 hp with rfl | hp
 ·exact ⟨by decide, tab_heap (ns := KL) gRoots t2 (by kernel_rfl) (by decide)⟩
 cases hp
def setCells (c : Array Value) : Obj → Obj
 | .cells _ t frozen => .cells c t frozen
 | o => o
def LaidIs (os : Os) (V : World) : Prop := V = { World.holding Tryz.prog os ⟨#[], #[], []⟩ with heap := (((((World.holding Tryz.prog os ⟨#[], #[], []⟩).heap.modify 1 (setCells ⟨KN⟩)).modify 2 (setCells ⟨HV⟩)).modify 3 (setCells ⟨KV⟩))) }
end Go.Proofs.YtglilbadldocoaaGreatDoor.Dg
namespace Go.Sy
open Go Go.Ev
abbrev Ety := List Nat × List Nat
def key (E : List Ety) (i : Nat) : List Nat := (E.getD i ([], [])).1
def val (E : List Ety) (i : Nat) : List Nat := (E.getD i ([], [])).2
def BsV (s : St) (v : Value) (A : List Nat) : Prop := ∃ q c, v = .slice q A.length c ∧ Bs s q A ∧ A.length < 2 ^ 60
theorem BsV.kn {s s' : St} {v : Value} {A : List Nat} (h : BsV s v A) (w : Wf s) (k : Kn s s') : BsV s' v A := let ⟨q, c, h1, h2, h3⟩ := h; ⟨q, c, h1, h2.kn w k, h3⟩
end Go.Sy
namespace Go.Sy
def lx : List Nat → List Nat → Int
 | [], [] => 0
 | [], _ :: _ => -1
 | _ :: _, [] => 1
 | a :: A, b :: B => if a = b then lx A B else if a < b then -1 else 1
theorem cmp_lx : ∀ A B : List Nat, cmp A B = lx A B
 | [], [] => rfl
 | [], _ :: _ => rfl
 | _ :: _, [] => rfl
 | a :: A, b :: B => by
  have ih := cmp_lx A B
  rw [lx]
  by_cases h : a = b
  ·rw [if_pos h, ← ih]
   unfold cmp
   rw [com, if_pos h]
   simp only [List.length_cons, Nat.add_right_cancel_iff, List.getD_cons_succ]
  ·rw [if_neg h]
   unfold cmp
   rw [com, if_neg h, if_neg (by simp), if_neg (by simp), if_neg (by simp)]
   rfl
theorem lx_swap : ∀ A B : List Nat, lx B A = - lx A B
 | [], [] => rfl
 | [], _ :: _ => rfl
 | _ :: _, [] => rfl
 | a :: A, b :: B => by
  rw [lx, lx]
  by_cases h : a = b
  ·rw [if_pos h, if_pos h.symm]; exact lx_swap A B
  ·rw [if_neg h, if_neg (Ne.symm h)]
   by_cases k : a < b
   ·rw [if_pos k, if_neg (by omega)]; rfl
   ·rw [if_neg k, if_pos (by omega)]
theorem lx_trans : ∀ {A B C : List Nat}, lx A B ≤ 0 → lx B C ≤ 0 → lx A C ≤ 0 ∧ (lx A C = 0 → lx A B = 0 ∧ lx B C = 0)
 | [], [], C, _, h => ⟨h, fun e => ⟨rfl, e⟩⟩
 | [], _ :: _, [], _, h => by simp [lx] at h
 | [], _ :: _, _ :: _, _, _ => by simp [lx]
 | _ :: _, [], _, h, _ => by simp [lx] at h
 | _ :: _, _ :: _, [], _, h => by simp [lx] at h
 | a :: A, b :: B, c :: C, h, k => by
  simp only [lx] at h k ⊢
  by_cases h1 : a = b
  ·subst h1
   rw [if_pos rfl] at h
   rw [if_pos rfl]
   by_cases h2 : a = c
   ·subst h2
    rw [if_pos rfl] at k ⊢
    rw [if_pos rfl]
    exact lx_trans h k
   ·rw [if_neg h2] at k ⊢
    rw [if_neg h2]
    by_cases h3 : a < c
    ·rw [if_pos h3]; exact ⟨by decide, fun e => by cases e⟩
    ·rw [if_neg h3] at k; exact absurd k (by decide)
  ·rw [if_neg h1] at h ⊢
   by_cases h3 : a < b
   ·rw [if_pos h3] at h ⊢
    by_cases h2 : b = c
    ·subst h2; rw [if_neg h1, if_pos h3]; exact ⟨by decide, fun e => by cases e⟩
    ·rw [if_neg h2] at k
     by_cases h4 : b < c
     ·rw [if_neg (by omega), if_pos (by omega)]; exact ⟨by decide, fun e => by cases e⟩
     ·rw [if_neg h4] at k; exact absurd k (by decide)
   ·rw [if_neg h3] at h; exact absurd h (by decide)
theorem lx_zero : ∀ {A B : List Nat}, lx A B = 0 ↔ A = B := fun {A B} => by rw [← cmp_lx]; exact cmp_zero
def Lt (A B : List Nat) : Prop := cmp A B < 0
instance (A B : List Nat) : Decidable (Lt A B) := inferInstanceAs (Decidable (cmp A B < 0))
section
variable {α : Type} (f : α → List Nat)
variable {f}
end
def ins : List Ety → Ety → List Ety
 | [], e => [e]
 | d :: D, e => if Lt d.1 e.1 then d :: ins D e else if d.1 = e.1 then e :: D else e :: d :: D
def canon (L : List Ety) : List Ety := L.foldl ins []
def chg (D : List Ety) (c : Ety) : List Ety := canon (D.filter (fun x => decide (x.1 ≠ c.1)) ++ if c.2 = [] then [] else [c])
end Go.Sy
namespace Go.Sy
open Go Go.Ev
theorem appc_ok {P : Program} {s : St} {e size : Nat} (hs : sizeOfT P e = some size) (hz : zeroFit P e size = true) {b n cap γ : Nat} {l : List Value} (hr : Rw s b l γ) {y : Value} {k : Nat} {new : List Value}
  (hk : lenOfV y = some k) (hy : cellsFrom s size k y = some new) (hl : new.length = k * size) (h1 : ∀ v ∈ new, one v = true) (hle : roomFor P e (n + k) = true) (hc : n + k ≤ cap) (hll : (n + k) * size ≤ l.length) :
  ∃ s', appendV P s e (.slice (some ⟨b, 0, none⟩) n (sure cap)) y = .ok (.val (.slice (some ⟨b, 0, none⟩) (n + k) (sure cap))) s' ∧ Rw s' b (lov l (n * size) new) γ ∧ s'.nx = s.nx ∧ Kp (fun x => x = γ) s s' := by
 obtain ⟨g, hr1, rfl⟩ := hr
 rw [Nat.add_mul] at hll
 obtain ⟨s', a1, a2, a3, a4⟩ := writeAt_ok hr1 (vs := new) (off := n * size) (by omega) h1
 refine ⟨s', ?_, ⟨g, a2, rfl⟩, a3, a4⟩
 have e0 : appendV P s e (.slice (some ⟨b, 0, none⟩) n (sure cap)) y = appendN P s e size (some ⟨b, 0, none⟩) n (sure cap) (n + k) new := by
  unfold appendV
  simp only [hs, hk, hy, fN_eq]
  rfl
 rw [e0]
 unfold appendN
 rw [hle, hz]
 show appendB s size b 0 n (sure cap) (n + k) new = _
 unfold appendB
 rw [cap_sure.1, show Nat.ble (n + k) cap = true from Nat.ble_eq_true_of_le hc]
 show (match writeAt s b (0 + n * size) new with | some s => Re.ok (.val (.slice (some ⟨b, 0, none⟩) (n + k) (sure cap))) s | none => .no) = _
 rw [Nat.zero_add, a1]
section
variable {X : Fx} {env : Env} {df : List Deferred} {s : St} {Q : Post} {all os : List Oper} {d : Option Nat} {ty : TypeId} {pos : String} {af : Array Edge} {g : Option (Nat × Bool)}
theorem Xv.appc {x y : Operand} {t u e n0 nu size : Nat} {z0 zu : Option (List Value)} {z : List Value} {t0 t1 tu : Nat} {ke ku : Sh} (ht : tk X.B.T t = some ⟨t0, n0, .sl e, z0⟩) (he : tk X.B.T e = some ⟨t1, size, ke, some z⟩) (hu : tk X.B.T u = some ⟨tu, nu, ku, zu⟩) (hn : notI ku = true)
  {b n cap : Nat} {v : Value} {γ k : Nat} {l new : List Value} (hx : ev env x = some (.slice (some ⟨b, 0, none⟩) n (sure cap))) (hy : ev env y = some v) (hr : Rw s b l γ) (hk : lenOfV v = some k) (hv : cellsFrom s size k v = some new) (hl : new.length = k * size) (h1 : ∀ v ∈ new, one v = true) {y0 : Nat} (hV : lkV X.B.V e = some y0) (hro : (5 * (n + k) + 3072) * y0 ≤ 1125899906842624) (hb : n + k ≤ 4611686018427387904) (hc : n + k ≤ cap) (hll : (n + k) * size ≤ l.length) :
  ∃ s', Xv X (.call ⟨.builtin .append, #[x, y], #[t, u]⟩) env s (.slice (some ⟨b, 0, none⟩) (n + k) (sure cap)) s' ∧ Rw s' b (lov l (n * size) new) γ ∧ s'.nx = s.nx ∧ Kp (fun x => x = γ) s s' := by
 obtain ⟨s', a, b1, c1, d1⟩ := appc_ok (P := X.P) (X.B.sz he) (X.B.zr he).2.2.2 hr hk hv hl h1 (X.B.room hV hro hb) hc hll
 refine ⟨s', fun tm hf => ?_, b1, c1, d1⟩
 show xAppend X.P [t, u] (opds tm [x, y]) s = _
 rw [evs_opds hf (xs := [x, y]) (vs := [.slice (some ⟨b, 0, none⟩) n (sure cap), v]) (by unfold evs evs evs; rw [hx, hy])]
 obtain ⟨td, hu1, hu2⟩ := und_notI (X.B.un hu) hn
 have ht1 : X.P.underlying t = some (.slice e) := X.B.un ht
 unfold xAppend
 simp only [ht1, show X.P.underlying u = some td from hu1]
 cases td <;> first | exact a | exact absurd rfl (hu2 _)
theorem Wo.appc {x y : Operand} {t u e n0 nu size : Nat} {z0 zu : Option (List Value)} {z : List Value} {t0 t1 tu : Nat} {ke ku : Sh} (hgd : wantsE all env g = some true) (ht : tk X.B.T t = some ⟨t0, n0, .sl e, z0⟩) (he : tk X.B.T e = some ⟨t1, size, ke, some z⟩) (hu : tk X.B.T u = some ⟨tu, nu, ku, zu⟩) (hn : notI ku = true) (hd : dOk X d = true)
  {b n cap : Nat} {v : Value} {γ k : Nat} {l new : List Value} (hx : ev env x = some (.slice (some ⟨b, 0, none⟩) n (sure cap))) (hy : ev env y = some v) (hr : Rw s b l γ) (hk : lenOfV v = some k) (hv : cellsFrom s size k v = some new) (hl : new.length = k * size) (h1 : ∀ v ∈ new, one v = true) {y0 : Nat} (hV : lkV X.B.V e = some y0) (hro : (5 * (n + k) + 3072) * y0 ≤ 1125899906842624) (hb : n + k ≤ 4611686018427387904) (hc : n + k ≤ cap) (hll : (n + k) * size ≤ l.length)
  (K : ∀ s', Rw s' b (lov l (n * size) new) γ → s'.nx = s.nx → Kp (fun x => x = γ) s s' → Wo X all os (up d (.slice (some ⟨b, 0, none⟩) (n + k) (sure cap)) env) df s' Q) : Wo X all (⟨d, .call ⟨.builtin .append, #[x, y], #[t, u]⟩, ty, pos, af, g⟩ :: os) env df s Q := by
 obtain ⟨s', a, b1, c1, d1⟩ := Xv.appc (X := X) (env := env) ht he hu hn hx hy hr hk hv hl h1 hV hro hb hc hll
 exact Wo.val hgd a hd (K s' b1 c1 d1)
theorem Wd.appc {i m : Nat} {L : List Sp} {past : Past} {x y : Operand} {t u e n0 nu size : Nat} {z0 zu : Option (List Value)} {z : List Value} {t0 t1 tu : Nat} {ke ku : Sh} (hgd : wantsE all env g = some true) (ht : tk X.B.T t = some ⟨t0, n0, .sl e, z0⟩) (he : tk X.B.T e = some ⟨t1, size, ke, some z⟩) (hu : tk X.B.T u = some ⟨tu, nu, ku, zu⟩) (hn : notI ku = true) (hd : dOk X d = true)
  {b n cap : Nat} {v : Value} {γ k : Nat} {l new : List Value} (hx : ev env x = some (.slice (some ⟨b, 0, none⟩) n (sure cap))) (hy : ev env y = some v) (hr : Rw s b l γ) (hk : lenOfV v = some k) (hv : cellsFrom s size k v = some new) (hl : new.length = k * size) (h1 : ∀ v ∈ new, one v = true) {y0 : Nat} (hV : lkV X.B.V e = some y0) (hro : (5 * (n + k) + 3072) * y0 ≤ 1125899906842624) (hb : n + k ≤ 4611686018427387904) (hc : n + k ≤ cap) (hll : (n + k) * size ≤ l.length)
  (K : ∀ s', Rw s' b (lov l (n * size) new) γ → s'.nx = s.nx → Kp (fun x => x = γ) s s' → Wd X all L ((some i, s') :: past) (up d (.slice (some ⟨b, 0, none⟩) (n + k) (sure cap)) env) df s' Q) : Wd X all (.mk .acts i ⟨d, .call ⟨.builtin .append, #[x, y], #[t, u]⟩, ty, pos, af, g⟩ m :: L) past env df s Q := by
 obtain ⟨s', a, b1, c1, d1⟩ := Xv.appc (X := X) (env := env) ht he hu hn hx hy hr hk hv hl h1 hV hro hb hc hll
 exact Wd.act hgd a hd (Nat.le_of_eq c1.symm) (K s' b1 c1 d1)
end
section
variable {X : Fx} {env : Env} {s : St}
theorem Xv.asB {t t0 n e : Nat} {z : Option (List Value)} {t1 n1 : Nat} {z1 : Option (List Value)} {x : Operand} {b o l c γ : Nat} {cs : List Value} (ht : tk X.B.T t = some ⟨t0, n, .sl e, z⟩) (he : tk X.B.T e = some ⟨t1, n1, .it .u8, z1⟩) (hx : ev env x = some (.slice (some ⟨b, o, none⟩) l c)) (w : Wf s) (hr : Rw s b cs γ) :
  ∃ s', Xv X (.convert t t x) env s (.slice (some ⟨b, o, none⟩) l c) s' ∧ Rw s' b cs γ ∧ s'.nx = s.nx ∧ Kp (fun c => c = γ) s s' := by
 obtain ⟨g, h1, h2⟩ := hr
 have hu : X.P.underlying t = some (.slice e) := X.B.un ht
 have hv : X.P.underlying e = some (.int .u8) := X.B.un he
 have xc : ∀ tm, Fits env tm → exec X.P (.convert t t x) tm s = asBytes (some ⟨b, o, none⟩) l c s := fun tm hf => by
  show xConv X.P t t (opd tm x) s = _
  rw [ev_opd hf hx]
  unfold xConv
  simp only [hu, hv, isU8, Nat.beq_refl, Bool.and_true, cond]
 obtain ⟨hp, nx, gr⟩ := s
 have h1' : hp.get b = some (.row cs g) := h1
 by_cases hg : g = 0
 ·subst hg
  have h0 : 0 < b := w.pos b cs 0 h1
  have hgb : gr.get b = none := w.zero b cs h1
  have hbn := (w.lt b _ h1).1
  have hG : ∀ k, (gr.set [b] b).get k = if k = b then some [b] else gr.get k := fun k => Tr.get_set _ _ _ (Nat.lt_succ_self _) k
  have hH : ∀ k, (hp.set (.row cs b) b).get k = if k = b then some (.row cs b) else hp.get k := fun k => get_set' _ _ _ _
  have eg : grpOf b b = b := grpOf_pos (by omega)
  refine ⟨.mk (hp.set (.row cs b) b) nx (gr.set [b] b), fun tm hf => ?_, ⟨b, by show (hp.set _ b).get b = _; rw [hH, if_pos rfl], eg.trans h2⟩, rfl, Nat.le_refl _, fun w => ⟨fun k q hk => ?_, fun G ms m q hG' hm hk => ?_, fun k cs' hk => ?_, fun k cs' G hk hG0 => ?_, fun k cs' G hk => ?_, fun G ms hG' => ?_, fun G ms m hG' hm => ?_, w.one⟩, fun _ k q hk hc => ?_⟩
  ·rw [xc tm hf]
   unfold asBytes
   simp only [h1', setO_ok, hgb, Option.isNone_none, Bool.and_true, cond]
   rw [show Nat.blt 0 b = true from Nat.ble_eq_true_of_le h0]
   simp only [setG]
   have hn : ∀ t : Tr (List Nat), t.get b ≠ none → (match Tr.casesOn (motive := fun _ => Option St) t none (fun v a b' c d => some (.mk (hp.set (.row cs b) b) nx (.node v a b' c d))) with
    | some s => Re.ok (.val (.slice (some ⟨b, o, none⟩) l c)) s
    | none => .no) = .ok (.val (.slice (some ⟨b, o, none⟩) l c)) (.mk (hp.set (.row cs b) b) nx t) := fun t ht => by
    cases t with
    | nil => exact absurd Tr.get_nil ht
    | node => rfl
   exact hn _ (by rw [hG, if_pos rfl]; exact Option.some_ne_none _)
  ·have hk : (hp.set (.row cs b) b).get k = some q := hk
   rw [hH] at hk
   split at hk
   ·rename_i e; subst e; cases hk
    exact ⟨hbn, by show grpOf k k < nx; rw [eg]; exact hbn⟩
   ·exact w.lt k q hk
  ·have hG1 : (gr.set [b] b).get G = some ms := hG'
   have hk1 : (hp.set (.row cs b) b).get m = some q := hk
   clear hG' hk
   rw [hG] at hG1
   rw [hH] at hk1
   split at hG1
   ·rename_i e; subst e; cases hG1
    rw [List.mem_singleton.1 hm, if_pos rfl] at hk1
    cases hk1; exact .inr ⟨cs, rfl⟩
   ·rename_i e
    split at hk1
    ·rename_i e2; subst e2
     rcases w.mem G ms m _ hG1 hm h1 with h | ⟨cs', h⟩
     ·cases h
     ·cases h; exact absurd (w.glt 0 ms hG1).1 (Nat.lt_irrefl _)
    ·exact w.mem G ms m q hG1 hm hk1
  ·have hk : (hp.set (.row cs b) b).get k = some (.row cs' 0) := hk
   rw [hH] at hk
   split at hk
   ·cases hk; exact absurd h0 (Nat.lt_irrefl _)
   ·rename_i e
    show (gr.set [b] b).get k = none
    rw [hG, if_neg e]; exact w.zero k cs' hk
  ·have hk : (hp.set (.row cs b) b).get k = some (.row cs' G) := hk
   show ∃ ms, (gr.set [b] b).get G = some ms
   rw [hG]
   split
   ·exact ⟨_, rfl⟩
   ·rename_i e
    rw [hH] at hk
    split at hk
    ·cases hk; exact absurd rfl e
    ·exact w.tag k cs' G hk hG0
  ·have hk : (hp.set (.row cs b) b).get k = some (.row cs' G) := hk
   rw [hH] at hk
   split at hk
   ·rename_i e; subst e; exact h0
   ·exact w.pos k cs' G hk
  ·have hG' : (gr.set [b] b).get G = some ms := hG'
   rw [hG] at hG'
   split at hG'
   ·rename_i e; subst e; exact ⟨h0, hbn⟩
   ·exact w.glt G ms hG'
  ·have hG' : (gr.set [b] b).get G = some ms := hG'
   rw [hG] at hG'
   split at hG'
   ·cases hG'; rw [List.mem_singleton.1 hm]; exact hbn
   ·exact w.mlt G ms m hG' hm
  ·show (hp.set (.row cs b) b).get k = some q
   rw [hH, if_neg fun e => by subst e; have hk : hp.get k = some q := hk; rw [h1'] at hk; cases hk; exact hc h2]
   exact hk
 ·refine ⟨_, fun tm hf => ?_, ⟨g, h1, h2⟩, rfl, .refl⟩
  rw [xc tm hf]
  unfold asBytes
  have e : Nat.beq g 0 = false := by
   cases hq : Nat.beq g 0 with
   | true => exact absurd (Nat.eq_of_beq_eq_true hq) hg
   | false => rfl
  simp only [h1', e, cond]
theorem Wo.asB {Q : Post} {all os : List Oper} {df : List Deferred} {d : Option Nat} {ty : TypeId} {pos : String} {af : Array Edge} {g : Option (Nat × Bool)} {t t0 n e : Nat} {z : Option (List Value)} {t1 n1 : Nat} {z1 : Option (List Value)} {x : Operand} {b o l c γ : Nat} {cs : List Value} (hg : wantsE all env g = some true) (ht : tk X.B.T t = some ⟨t0, n, .sl e, z⟩) (he : tk X.B.T e = some ⟨t1, n1, .it .u8, z1⟩) (hx : ev env x = some (.slice (some ⟨b, o, none⟩) l c)) (hd : dOk X d = true) (w : Wf s) (hr : Rw s b cs γ)
  (K : ∀ s', Rw s' b cs γ → s'.nx = s.nx → Kp (fun c => c = γ) s s' → Wo X all os (up d (.slice (some ⟨b, o, none⟩) l c) env) df s' Q) : Wo X all (⟨d, .convert t t x, ty, pos, af, g⟩ :: os) env df s Q := by
 obtain ⟨s', a, b, c, e⟩ := Xv.asB (X := X) ht he hx w hr
 exact Wo.val hg a hd (K s' b c e)
end
structure Own (s : St) (v : Value) (A X : List Nat) (γ : Nat) : Prop where
 ex : ∃ b c, v = .slice (some ⟨b, 0, none⟩) A.length c ∧ Rw s b ((A ++ X).map nB) γ ∧ capOf c = A.length + X.length ∧ (capSure c = true → c = sure (capOf c))
 lt : A.length < 2 ^ 60
theorem Own.bs {s : St} {v : Value} {A X : List Nat} {γ : Nat} (h : Own s v A X γ) : BsV s v A := by
 obtain ⟨b, c, h1, h2, _, _⟩ := h.ex
 refine ⟨_, c, h1, ?_, h.lt⟩
 have := (h2.sl (o := 0) (n := A.length) (by simp)).at
 rwa [List.drop_zero, List.map_append, List.take_append_of_le_length (by simp), List.take_of_length_le (by simp)] at this
theorem Own.kp {C : Nat → Prop} {s s' : St} {v : Value} {A X : List Nat} {γ : Nat} (h : Own s v A X γ) (w : Wf s) (k : Kp C s s') (hc : ¬ C γ) : Own s' v A X γ :=
 ⟨let ⟨b, c, h1, h2, h3, h4⟩ := h.ex; ⟨b, c, h1, h2.kp w k hc, h3, h4⟩, h.lt⟩
theorem Own.ltn {s : St} {v : Value} {A X : List Nat} {γ : Nat} (h : Own s v A X γ) (w : Wf s) : γ < s.nx := let ⟨_, _, _, h2, _, _⟩ := h.ex; (h2.lt w).2
end Go.Sy
