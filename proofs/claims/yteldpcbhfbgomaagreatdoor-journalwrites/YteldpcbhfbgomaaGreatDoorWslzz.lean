import Derived.Test.YteldpcbhfbgomaaGreatDoorCards
import Derived.Test.YteldpcbhfbgomaaGreatDoorTie
import Derived.ProofKit
import Derived.OpenShut
import Derived.Deep.DeepHandedRow
import Derived.Lib.LaidTab
import Derived.Lib.LaidU8
import Derived.Test.YteldpcbhfbgomaaGreatDoorWstzz
import Derived.Test.YteldpcbhfbgomaaGreatDoorC1zz
namespace Go.Proofs.YteldpcbhfbgomaaGreatDoor.Dg
open Go Go.ChangeShapes Go.WideShapes Go.ChangeAt Go.RowKit
def KN : List Value := [.int .i64 (.ofNat 1), .int .i64 (.ofNat 0), .int .i64 (.ofNat 0), .bool true, .int .i64 (.ofNat 2), .int .i64 (.ofNat 1), .int .i64 (.ofNat 32), .bool false]
theorem gKinds : Tryz.prog.globalNamed "cairn/journal.kinds" = some 0 := by kernel_rfl
theorem tKinds : (Tryz.prog.globals[0]?).map (·.type) = some 113 := by kernel_rfl
set_option maxRecDepth 100000 in
theorem kinds_row {H : Type} {enc : TypeId × Value → H} {w : World} {base : Nat} {sp : Nat → Bool} {held : Bool} {fuel : Nat} {x : DataW H × List MemPlace} {a b c d : Value} {z1 z2 z3 : Int} {t : Bool}
  (h : DataW.trod enc Tryz.prog w base sp held fuel 93 [a, b, c, d] = some x) (hx : x.1 = .agg [.lit (.int .i64 z1), .lit (.int .i64 z2), .lit (.int .i64 z3), .lit (.bool t)]) :
  a = .int .i64 z1 ∧ b = .int .i64 z2 ∧ c = .int .i64 z3 ∧ d = .bool t := by
 obtain ⟨xs, m, _, rfl, _, hn, hf⟩ := DataW.trod_struct (fs := _) (show Tryz.prog.underlying 93 = some (.struct _) from Tryz.underlying93) h
 obtain ⟨x0, x1, x2, x3, rfl⟩ : ∃ x0 x1 x2 x3, xs = [x0, x1, x2, x3] := by
  match xs, hn with
  | [x0, x1, x2, x3], _ => exact ⟨x0, x1, x2, x3, rfl⟩
 have h0 := hf 0 _ rfl
 have h1 := hf 1 _ rfl
 have h2 := hf 2 _ rfl
 have h3 := hf 3 _ rfl
 simp only [List.getElem?_cons_zero, List.getElem?_cons_succ] at h0 h1 h2 h3
 obtain ⟨n0, e0, r0, _⟩ := DataW.trod_int Tryz.underlying3 h0
 obtain ⟨n1, e1, r1, _⟩ := DataW.trod_int Tryz.underlying2 h1
 obtain ⟨n2, e2, r2, _⟩ := DataW.trod_int Tryz.underlying3 h2
 obtain ⟨n3, e3, r3⟩ := DataW.trod_bool Tryz.underlying4 h3
 subst r0 r1 r2 r3
 cases e0; cases e1; cases e2; cases e3
 simp only [List.map, DataW.agg.injEq, List.cons.injEq, DataW.lit.injEq, Lit.int.injEq, Lit.bool.injEq, true_and, and_true] at hx
 obtain ⟨rfl, rfl, rfl, rfl⟩ := hx
 exact ⟨rfl, rfl, rfl, rfl⟩
set_option maxRecDepth 100000 in
theorem kinds_cells {H : Type} {enc : TypeId × Value → H} {w : World} {base : Nat} {sp : Nat → Bool} {held : Bool} {fuel : Nat} {cs : List Value} {p : List MemPlace}
  (h : DataW.trod enc Tryz.prog w base sp held fuel 113 cs = some (Rows.laid_cairn_journal_kinds, p)) : cs = KN := by
 obtain ⟨xs, m, _, hx, hl, hn, hf⟩ := DataW.trod_array Tryz.underlying113 h
 obtain ⟨x0, x1, rfl⟩ : ∃ x0 x1, xs = [x0, x1] := by
  match xs, hn with
  | [x0, x1], _ => exact ⟨x0, x1, rfl⟩
 have c0 : Tryz.prog.cellsOf 113 = 8 := by kernel_rfl
 have c1 : Tryz.prog.cellsOf 93 = 4 := by kernel_rfl
 rw [c0] at hl
 match cs, hl with
 | [a0, a1, a2, a3, a4, a5, a6, a7], _ =>
  have h0 := hf 0 (by decide)
  have h1 := hf 1 (by decide)
  rw [c1] at h0 h1
  have hx1 := congrArg Prod.fst hx
  unfold Rows.laid_cairn_journal_kinds at hx1
  simp only [List.map, DataW.agg.injEq, List.cons.injEq, and_true] at hx1
  obtain ⟨rfl, rfl, rfl, rfl⟩ := kinds_row h0 hx1.1.symm
  obtain ⟨rfl, rfl, rfl, rfl⟩ := kinds_row h1 hx1.2.symm
  rfl
set_option maxRecDepth 100000 in
theorem kinds_met {W : World} {l : List (String × DataW Unit)} (h : laidMet Tryz.prog l W) (m1 : ("cairn/journal.kinds", Rows.laid_cairn_journal_kinds) ∈ l) : ∀ i, W.cell? ⟨0, i, none⟩ = KN[i]? := by
 obtain ⟨g', t', cs, fuel, p, hg', ht', hvar, hd⟩ := Lib.laidMet.reads h m1
 obtain rfl := Option.some.inj (gKinds.symm.trans hg')
 obtain rfl := Option.some.inj (tKinds.symm.trans ht')
 intro i
 have := World.var?_cell gKinds hvar i
 rw [this]
 rw [← kinds_cells hd]
 simp
open Go Go.Ev Go.ChangeShapes Go.WideShapes Go.ChangeAt Go.RowKit
theorem own : ownKnob Tryz.prog.godebug = none := by kernel_rfl
theorem mixed : Tryz.prog.follows .mixedOrders = true := by kernel_rfl
theorem tab_of {W : World} {name : String} {k : IntKind} {zs : List Int} {g : Nat} {t e : TypeId} {n : Nat}
  (hg : Tryz.prog.globalNamed name = some g) (hty : (Tryz.prog.globals[g]?).map (·.type) = some t) (ht : Tryz.prog.underlying t = some (.array n e)) (he : Tryz.prog.underlying e = some (.int k)) (hce : Tryz.prog.cellsOf e = 1) (hct : Tryz.prog.cellsOf t = n)
  (h : Lib.VarReads Tryz.prog W name (Lib.tabData k zs)) : Lib.TabIs Tryz.prog W name k zs := by
 obtain ⟨g', t', cs, fuel, p, hg', ht', hvar, hd⟩ := h
 obtain rfl := Option.some.inj (hg.symm.trans hg')
 obtain rfl := Option.some.inj (hty.symm.trans ht')
 unfold Lib.TabIs
 rw [hvar, ← Lib.cells_of_tab ht he hce hct hd]
def HL : List Nat := [1779033703, 3144134277, 1013904242, 2773480762, 1359893119, 2600822924, 528734635, 1541459225]
def HV : List Value := HL.map fun n => .int .u32 (.ofNat n)
def HI : List Int := [1779033703, 3144134277, 1013904242, 2773480762, 1359893119, 2600822924, 528734635, 1541459225]
def KI : List Int := [1116352408, 1899447441, 3049323471, 3921009573, 961987163, 1508970993, 2453635748, 2870763221, 3624381080, 310598401, 607225278, 1426881987, 1925078388, 2162078206, 2614888103, 3248222580, 3835390401, 4022224774, 264347078, 604807628, 770255983, 1249150122, 1555081692, 1996064986, 2554220882, 2821834349, 2952996808, 3210313671, 3336571891, 3584528711, 113926993, 338241895, 666307205, 773529912, 1294757372, 1396182291, 1695183700, 1986661051, 2177026350, 2456956037, 2730485921, 2820302411, 3259730800, 3345764771, 3516065817, 3600352804, 4094571909, 275423344, 430227734, 506948616, 659060556, 883997877, 958139571, 1322822218, 1537002063, 1747873779, 1955562222, 2024104815, 2227730452, 2361852424, 2428436474, 2756734187, 3204031479, 3329325298]
theorem tab_heap {W : World} {name : String} {g : Nat} {zs : List Int} {ns : List Nat} (hg : Tryz.prog.globalNamed name = some g) (h : Lib.TabIs Tryz.prog W name .u32 zs) (hz : zs = ns.map fun n => ((n : Nat) : Int)) (hn : 0 < ns.length) :
  ∃ c t fr, W.heap[g]? = some (.cells c t fr) ∧ ∀ (i : Nat) (v : Value), (ns.map fun n => (Value.int .u32 (.ofNat n)))[i]? = some v → c[i]? = some v ∧ plain 1 v = true := by
 have hc : ∀ i, i < ns.length → W.cell? ⟨g, i, none⟩ = some (.int .u32 (.ofNat (ns.getD i 0))) := by
  intro i hi
  have := h.cell hg i (by rw [hz, List.length_map]; exact hi)
  rw [this, hz, List.getD_eq_getElem?_getD, List.getElem?_map, List.getD_eq_getElem?_getD, List.getElem?_eq_getElem hi]
  rfl
 have h0 := hc 0 hn
 unfold World.cell? at h0
 split at h0
 case h_2 => cases h0
 rename_i c t fr hw
 refine ⟨c, t, fr, hw, fun i v hv => ?_⟩
 rw [List.getElem?_map] at hv
 rcases Nat.lt_or_ge i ns.length with hi | hi
 ·rw [List.getElem?_eq_getElem hi] at hv
  cases hv
  have h1 := hc i hi
  unfold World.cell? at h1
  rw [hw] at h1
  rw [List.getD_eq_getElem?_getD, List.getElem?_eq_getElem hi] at h1
  exact ⟨h1, rfl⟩
 ·rw [List.getElem?_eq_none hi] at hv; cases hv
theorem gFirst : Tryz.prog.globalNamed "cairn/sha.first" = some 2 := by kernel_rfl
theorem gRoots : Tryz.prog.globalNamed "cairn/sha.roots" = some 4 := by kernel_rfl
theorem gRounds : Tryz.prog.globalNamed "cairn/cairnref02.rounds" = some 1 := by kernel_rfl
theorem tFirst : (Tryz.prog.globals[2]?).map (·.type) = some 145 := by kernel_rfl
theorem tRoots : (Tryz.prog.globals[4]?).map (·.type) = some 157 := by kernel_rfl
theorem tRounds : (Tryz.prog.globals[1]?).map (·.type) = some 157 := by kernel_rfl
theorem cells32 : Tryz.prog.cellsOf 78 = 1 := by kernel_rfl
theorem cells8 : Tryz.prog.cellsOf 145 = 8 := by kernel_rfl
theorem cells64 : Tryz.prog.cellsOf 157 = 64 := by kernel_rfl
def tabs : List (Nat × List Value) := [(0, KN), (2, HV), (4, KV), (1, KV)]
theorem kinds_heap {W : World} (h : ∀ i, W.cell? ⟨0, i, none⟩ = KN[i]?) : ∃ c t fr, W.heap[0]? = some (.cells c t fr) ∧ ∀ (i : Nat) (v : Value), KN[i]? = some v → c[i]? = some v ∧ plain 1 v = true := by
 have h0 := h 0
 unfold World.cell? at h0
 split at h0
 case h_2 => cases h0
 rename_i c t fr hw
 refine ⟨c, t, fr, hw, fun i v hv => ?_⟩
 have h1 := h i
 unfold World.cell? at h1
 rw [hw, hv] at h1
 exact ⟨h1, List.all_eq_true.1 (show KN.all (plain 1) = true by kernel_rfl) v (List.mem_of_getElem? hv)⟩
theorem tabs_met {W : World} {l : List (String × DataW Unit)} (h : laidMet Tryz.prog l W) (m0 : ("cairn/journal.kinds", Rows.laid_cairn_journal_kinds) ∈ l) (m1 : ("cairn/sha.first", Rows.laid_cairn_sha_first) ∈ l) (m2 : ("cairn/sha.roots", Rows.laid_cairn_sha_roots) ∈ l) (m3 : ("cairn/cairnref02.rounds", Rows.laid_cairn_cairnref02_rounds) ∈ l) :
  ∀ p ∈ tabs, p.1 < 1000 ∧ ∃ c t fr, W.heap[p.1]? = some (.cells c t fr) ∧ ∀ (i : Nat) (v : Value), p.2[i]? = some v → c[i]? = some v ∧ plain 1 v = true := by
 have t1 : Lib.TabIs Tryz.prog W "cairn/sha.first" .u32 HI := tab_of gFirst tFirst Tryz.underlying145 Tryz.underlying78 cells32 cells8 (Lib.laidMet.reads h m1)
 have t2 : Lib.TabIs Tryz.prog W "cairn/sha.roots" .u32 KI := tab_of gRoots tRoots Tryz.underlying157 Tryz.underlying78 cells32 cells64 (Lib.laidMet.reads h m2)
 have t3 : Lib.TabIs Tryz.prog W "cairn/cairnref02.rounds" .u32 KI := tab_of gRounds tRounds Tryz.underlying157 Tryz.underlying78 cells32 cells64 (Lib.laidMet.reads h m3)
 intro p hp
 rcases List.mem_cons.1 hp with rfl | hp
 ·exact ⟨by decide, kinds_heap (kinds_met h m0)⟩
 rcases List.mem_cons.1 hp with rfl | hp
 ·exact ⟨by decide, tab_heap (ns := HL) gFirst t1 (by kernel_rfl) (by decide)⟩
 rcases List.mem_cons.1 hp with rfl | hp
 ·exact ⟨by decide, tab_heap (ns := KL) gRoots t2 (by kernel_rfl) (by decide)⟩
 rcases List.mem_cons.1 hp with rfl | hp
 ·exact ⟨by decide, tab_heap (ns := KL) gRounds t3 (by kernel_rfl) (by decide)⟩
 cases hp
def setCells (c : Array Value) : Obj → Obj
 | .cells _ t frozen => .cells c t frozen
 | o => o
def LaidIs (os : Os) (V : World) : Prop := V = { World.holding Tryz.prog os ⟨#[], #[], []⟩ with heap := (((((World.holding Tryz.prog os ⟨#[], #[], []⟩).heap.modify 0 (setCells ⟨KN⟩)).modify 2 (setCells ⟨HV⟩)).modify 4 (setCells ⟨KV⟩)).modify 1 (setCells ⟨KV⟩)) }
end Go.Proofs.YteldpcbhfbgomaaGreatDoor.Dg
namespace Go.Sy
open Go Go.Ev
structure Anc (s : St) (b0 : Nat) (l0 : List Value) (b γ k : Nat) : Prop where
  an : ∃ pre rest, s.gr.get γ = some (b :: (pre ++ b0 :: rest)) ∧ pre.length = k ∧ b ∉ pre ∧ b ≠ b0 ∧ b ∉ rest ∧ b0 ∉ rest ∧ b0 ∉ pre
  ro : s.hp.get b0 = some (.row l0 γ)
  nz : γ ≠ 0
theorem Anc.row {s : St} {b0 : Nat} {l0 cs : List Value} {b γ k : Nat} (h : Anc s b0 l0 b γ k) (w : Wf s) : Anc (mkRow s cs) b0 l0 b γ k :=
  ⟨h.an, mkRow_kn.kp w b0 _ h.ro id, h.nz⟩
theorem Anc.sl {s : St} {b0 : Nat} {l0 : List Value} {b γ k : Nat} (h : Anc s b0 l0 b γ k) : Sl s (some ⟨b0, 0, none⟩) l0 γ := by
  have hr : Rw s b0 l0 γ := ⟨γ, h.ro, grpOf_pos h.nz⟩
  have := hr.sl (o := 0) (n := l0.length) (by omega)
  rwa [List.drop_zero, List.take_length] at this
theorem others_none {b : Nat} {l : List Nat} (h : b ∉ l) : others b l = l := by
  unfold others
  refine List.filter_eq_self.2 fun m hm => ?_
  cases e : Nat.beq m b with
  | true => exact absurd (Nat.eq_of_beq_eq_true e ▸ hm) h
  | false => rfl
theorem others_cons {b : Nat} {l : List Nat} : others b (b :: l) = others b l := by
  unfold others
  rw [List.filter_cons, Nat.beq_refl]; rfl
theorem keepL_pre {pre rest : List Nat} {b0 : Nat} (h : pre.length < 100) : ∃ rest', keepL (pre ++ b0 :: rest) = pre ++ b0 :: rest' ∧ ∀ m ∈ rest', m ∈ rest := by
  have e1 : (pre ++ b0 :: rest).take 100 = pre ++ b0 :: rest.take (99 - pre.length) := by
    rw [List.take_append, List.take_of_length_le (by omega), show 100 - pre.length = (99 - pre.length) + 1 by omega]; rfl
  have e2 : (pre ++ b0 :: rest).drop 100 = rest.drop (99 - pre.length) := by
    rw [List.drop_append, List.drop_eq_nil_of_le (by omega), List.nil_append, show 100 - pre.length = (99 - pre.length) + 1 by omega]; rfl
  refine ⟨rest.take (99 - pre.length) ++ (rest.drop (99 - pre.length)).drop ((pre ++ b0 :: rest).length - 103), ?_, fun m hm => ?_⟩
  · unfold keepL; rw [e1, e2, List.append_assoc]; rfl
  · rcases List.mem_append.1 hm with h | h
    · exact List.mem_of_mem_take h
    · exact List.mem_of_mem_drop (List.mem_of_mem_drop h)
theorem killL_pre {pre rest : List Nat} {b0 : Nat} (h : pre.length < 100) (h0 : b0 ∉ rest) : b0 ∉ killL (pre ++ b0 :: rest) := fun hm => by
  have h1 := List.mem_of_mem_take hm
  rw [List.drop_append, List.drop_eq_nil_of_le (by omega), List.nil_append, show 100 - pre.length = (99 - pre.length) + 1 by omega] at h1
  exact h0 (List.mem_of_mem_drop (show b0 ∈ rest.drop (99 - pre.length) from h1))
theorem anc0 {s : St} (w : Wf s) {b0 g need es : Nat} {l0 new : List Value} (hb : s.hp.get b0 = some (.row l0 g)) (hn : need < 18446744073709551616) :
    ∃ s', extend s b0 g need es l0.length l0 new = .ok (.val (.slice (some ⟨s.nx, 0, none⟩) need (least need es))) s' ∧ s'.hp.get s.nx = some (.row (l0 ++ new) (grpOf g b0)) ∧ s'.nx = s.nx + 1 ∧ Kp (fun c => c = grpOf g b0) s s' ∧ Anc s' b0 l0 s.nx (grpOf g b0) 0 := by
  obtain ⟨s', h1, h2, h3, h4, h5, h6, h7⟩ := extend_ok (need := need) (es := es) (new := new) (rest := []) w (by rw [List.append_nil]; exact hb) hn
  refine ⟨s', h1, h2, h3, h4, ⟨[], keepL (others b0 (membersOf (s.gr.get (grpOf g b0)))), h7, rfl, by simp, ?_, fun h => ?_, fun h => ?_, by simp⟩, h5, ?_⟩
  · have := (w.lt b0 _ hb).1; omega
  · have := (others_mem.1 (keepL_sub h)).1
    cases hq : s.gr.get (grpOf g b0) with
    | none => rw [hq] at this; simp [membersOf] at this
    | some ms => rw [hq] at this; exact absurd (w.mlt _ ms _ hq this) (Nat.lt_irrefl _)
  · exact (others_mem.1 (keepL_sub h)).2 rfl
  · by_cases e : g = 0
    · subst e; have := w.pos b0 _ _ hb; show grpOf 0 b0 ≠ 0; rw [grpOf_zero]; omega
    · rw [grpOf_pos e]; exact e
theorem anc1 {s : St} (w : Wf s) {b0 b γ k need es : Nat} {l0 cs new : List Value} (ha : Anc s b0 l0 b γ k) (hb : s.hp.get b = some (.row cs γ)) (hl : l0.length ≤ cs.length) (hk : k < 98) (hn : need < 18446744073709551616) :
    ∃ s', extend s b γ need es cs.length cs new = .ok (.val (.slice (some ⟨s.nx, 0, none⟩) need (least need es))) s' ∧ s'.hp.get s.nx = some (.row (cs ++ new) γ) ∧ s'.nx = s.nx + 1 ∧ Kp (fun c => c = γ) s s' ∧ Anc s' b0 l0 s.nx γ (k + 1) := by
  obtain ⟨pre, rest, a1, a2, a3, a4, a5, a6, a7⟩ := ha.an
  have hG : grpOf γ b = γ := grpOf_pos ha.nz
  obtain ⟨s', h1, h2, h3, h4, h5, h6, h7⟩ := extend_ok (need := need) (es := es) (new := new) (rest := []) w (by rw [List.append_nil]; exact hb) hn
  rw [hG] at h2 h4 h5 h6 h7
  have ho : others b (membersOf (s.gr.get γ)) = pre ++ b0 :: rest := by
    rw [a1]; show others b (b :: (pre ++ b0 :: rest)) = _
    rw [others_cons, others_none]
    intro h
    rcases List.mem_append.1 h with h | h
    · exact a3 h
    · rcases List.mem_cons.1 h with h | h
      · exact a4 h
      · exact a5 h
  rw [ho] at h6 h7
  obtain ⟨rest', r1, r2⟩ := keepL_pre (pre := pre) (rest := rest) (b0 := b0) (by omega)
  rw [r1] at h7
  have hlt : ∀ m, m ∈ b :: (pre ++ b0 :: rest) → m < s.nx := fun m hm => w.mlt _ _ m a1 hm
  refine ⟨s', h1, h2, h3, h4, ⟨b :: pre, rest', h7, by rw [List.length_cons, a2], fun h => ?_, fun h => ?_, fun h => ?_, fun h => a6 (r2 _ h), fun h => ?_⟩, ?_, ha.nz⟩
  · have := hlt s.nx (by rcases List.mem_cons.1 h with h | h
                         · rw [← h]; exact List.mem_cons_self
                         · exact List.mem_cons_of_mem _ (List.mem_append_left _ h))
    omega
  · have := hlt b0 (by simp); omega
  · have := hlt s.nx (by simp [r2 _ h]); omega
  · rcases List.mem_cons.1 h with h | h
    · exact a4 h.symm
    · exact a7 h
  · exact h6 b0 (fun e => a4 e.symm) (killL_pre (by omega) a6) l0 γ ha.ro hl
end Go.Sy
namespace Go.Sy
open Go Go.Ev
section
variable {X : Fx} {env : Env} {df : List Deferred} {s : St} {Q : Post} {all os : List Oper} {d : Option Nat} {ty : TypeId} {pos : String} {af : Array Edge} {g : Option (Nat × Bool)}
theorem Gw.any {s s' : St} {q : Option Addr} {n c size γ γ' : Nat} {cs : List Value} (h : Gw s q n c size cs γ) (hq : q = none) : Gw s' q n c size cs γ' := by
 rcases h.at' with e | ⟨b, g, e, _⟩
 ·exact ⟨h.len, .inl e⟩
 ·rw [hq] at e; cases e
theorem Gw.keep {C : Nat → Prop} {s s' : St} {q : Option Addr} {n c size γ : Nat} {cs : List Value} (h : Gw s q n c size cs γ) (w : Wf s) (k : Kp C s s') (hc : q ≠ none → ¬ C γ) : Gw s' q n c size cs γ := by
 by_cases hq : q = none
 ·exact h.any hq
 ·exact h.kp w k (hc hq)
theorem Gw.ltn {s : St} {q : Option Addr} {n c size γ : Nat} {cs : List Value} (h : Gw s q n c size cs γ) (w : Wf s) (hq : q ≠ none) : γ < s.nx := by
 rcases h.at' with e | ⟨b, g, _, h1, h2, _⟩
 ·exact absurd e.1 hq
 ·rw [← h2]; exact (w.lt b _ h1).2
theorem Xv.app2 {x y : Operand} {t u e n0 nu size : Nat} {z0 zu : Option (List Value)} {z : List Value} {t0 t1 tu : Nat} {ke ku : Sh} (ht : tk X.B.T t = some ⟨t0, n0, .sl e, z0⟩) (he : tk X.B.T e = some ⟨t1, size, ke, some z⟩) (hu : tk X.B.T u = some ⟨tu, nu, ku, zu⟩) (hn : notI ku = true) (h0 : Nat.blt 0 size = true)
  {q : Option Addr} {n c : Nat} {v : Value} {γ k : Nat} {cs new : List Value} (hx : ev env x = some (.slice q n c)) (hy : ev env y = some v) (w : Wf s) (hg : Gw s q n c size cs γ) (hk : lenOfV v = some k) (hv : cellsFrom s size k v = some new) (hl : new.length = k * size) (h1 : ∀ v ∈ new, one v = true) {y0 : Nat} (hV : lkV X.B.V e = some y0) (hr : (5 * (n + k) + 3072) * y0 ≤ 1125899906842624) (hb : n + k ≤ 4611686018427387904) :
  ∃ q' c' γ' s', Xv X (.call ⟨.builtin .append, #[x, y], #[t, u]⟩) env s (.slice q' (n + k) c') s' ∧ Gw s' q' (n + k) c' size (cs ++ new) γ' ∧ Kp (fun c => q ≠ none ∧ c = γ) s s' ∧ ((q ≠ none ∧ γ' = γ) ∨ γ' = s.nx) := by
 by_cases hq : q = none
 ·obtain ⟨q', c', γ', s', a, b, k1, k2, _⟩ := Xv.app (X := X) (env := env) ht he hu hn h0 hx hy w (hg.any (s' := s) (γ' := s.nx) hq) hk hv hl h1 hV hr hb
  refine ⟨q', c', γ', s', a, b, (Kp.new (N := s.nx) .refl (k1.mono fun c e => Nat.le_of_eq e.symm) (Nat.le_refl _)).mono fun _ e => e.elim, .inr ?_⟩
  rcases k2 with k2 | ⟨k2, _⟩ <;> exact k2
 ·obtain ⟨q', c', γ', s', a, b, k1, k2, _⟩ := Xv.app (X := X) (env := env) ht he hu hn h0 hx hy w hg hk hv hl h1 hV hr hb
  refine ⟨q', c', γ', s', a, b, k1.mono fun c e => ⟨hq, e⟩, ?_⟩
  rcases k2 with k2 | ⟨k2, _⟩
  ·exact .inl ⟨hq, k2⟩
  ·exact .inr k2
theorem Wo.app2 {x y : Operand} {t u e n0 nu size : Nat} {z0 zu : Option (List Value)} {z : List Value} {t0 t1 tu : Nat} {ke ku : Sh} (hgd : wantsE all env g = some true) (ht : tk X.B.T t = some ⟨t0, n0, .sl e, z0⟩) (he : tk X.B.T e = some ⟨t1, size, ke, some z⟩) (hu : tk X.B.T u = some ⟨tu, nu, ku, zu⟩) (hn : notI ku = true) (h0 : Nat.blt 0 size = true) (hd : dOk X d = true)
  {q : Option Addr} {n c : Nat} {v : Value} {γ k : Nat} {cs new : List Value} (hx : ev env x = some (.slice q n c)) (hy : ev env y = some v) (w : Wf s) (hg : Gw s q n c size cs γ) (hk : lenOfV v = some k) (hv : cellsFrom s size k v = some new) (hl : new.length = k * size) (h1 : ∀ v ∈ new, one v = true) {y0 : Nat} (hV : lkV X.B.V e = some y0) (hr : (5 * (n + k) + 3072) * y0 ≤ 1125899906842624) (hb : n + k ≤ 4611686018427387904)
  (K : ∀ q' c' γ' s', Gw s' q' (n + k) c' size (cs ++ new) γ' → Kp (fun c => q ≠ none ∧ c = γ) s s' → ((q ≠ none ∧ γ' = γ) ∨ γ' = s.nx) → Wo X all os (up d (.slice q' (n + k) c') env) df s' Q) :
  Wo X all (⟨d, .call ⟨.builtin .append, #[x, y], #[t, u]⟩, ty, pos, af, g⟩ :: os) env df s Q := by
 obtain ⟨q', c', γ', s', a, b, c1, d1⟩ := Xv.app2 (X := X) (env := env) ht he hu hn h0 hx hy w hg hk hv hl h1 hV hr hb
 exact Wo.val hgd a hd (K q' c' γ' s' b c1 d1)
theorem Wd.app2 {i m : Nat} {L : List Sp} {past : Past} {x y : Operand} {t u e n0 nu size : Nat} {z0 zu : Option (List Value)} {z : List Value} {t0 t1 tu : Nat} {ke ku : Sh} (hgd : wantsE all env g = some true) (ht : tk X.B.T t = some ⟨t0, n0, .sl e, z0⟩) (he : tk X.B.T e = some ⟨t1, size, ke, some z⟩) (hu : tk X.B.T u = some ⟨tu, nu, ku, zu⟩) (hn : notI ku = true) (h0 : Nat.blt 0 size = true) (hd : dOk X d = true)
  {q : Option Addr} {n c : Nat} {v : Value} {γ k : Nat} {cs new : List Value} (hx : ev env x = some (.slice q n c)) (hy : ev env y = some v) (w : Wf s) (hg : Gw s q n c size cs γ) (hk : lenOfV v = some k) (hv : cellsFrom s size k v = some new) (hl : new.length = k * size) (h1 : ∀ v ∈ new, one v = true) {y0 : Nat} (hV : lkV X.B.V e = some y0) (hr : (5 * (n + k) + 3072) * y0 ≤ 1125899906842624) (hb : n + k ≤ 4611686018427387904)
  (K : ∀ q' c' γ' s', Gw s' q' (n + k) c' size (cs ++ new) γ' → Kp (fun c => q ≠ none ∧ c = γ) s s' → ((q ≠ none ∧ γ' = γ) ∨ γ' = s.nx) → Wd X all L ((some i, s') :: past) (up d (.slice q' (n + k) c') env) df s' Q) :
  Wd X all (.mk .acts i ⟨d, .call ⟨.builtin .append, #[x, y], #[t, u]⟩, ty, pos, af, g⟩ m :: L) past env df s Q := by
 obtain ⟨q', c', γ', s', a, b, c1, d1⟩ := Xv.app2 (X := X) (env := env) ht he hu hn h0 hx hy w hg hk hv hl h1 hV hr hb
 exact Wd.act hgd a hd c1.le (K q' c' γ' s' b c1 d1)
end
structure Ce where
 q : Option Addr
 c : Nat
 γ : Nat
 A : List Nat
def Ce.v (x : Ce) : Value := .slice x.q x.A.length x.c
structure CeOk (s : St) (lo : Nat) (x : Ce) : Prop where
 gw : Gw s x.q x.A.length x.c 1 (x.A.map nB) x.γ
 lo : x.q ≠ none → lo ≤ x.γ
 sm : x.A.length < 2 ^ 40
structure Fc (s : St) (lo : Nat) (l : List Ce) : Prop where
 ok : ∀ x ∈ l, CeOk s lo x
 pw : l.Pairwise fun x y => x.q ≠ none → y.q ≠ none → x.γ ≠ y.γ
theorem CeOk.bs {s : St} {lo : Nat} {x : Ce} (h : CeOk s lo x) : BsV s x.v x.A := ⟨x.q, x.c, rfl, h.gw.sl.at, by have := h.sm; omega⟩
theorem Fc.nil {s : St} {lo : Nat} : Fc s lo [] := ⟨by simp, .nil⟩
theorem Fc.kp {C : Nat → Prop} {s s' : St} {lo : Nat} {l : List Ce} (h : Fc s lo l) (w : Wf s) (k : Kp C s s') (hc : ∀ x ∈ l, x.q ≠ none → ¬ C x.γ) : Fc s' lo l :=
 ⟨fun x hx => ⟨(h.ok x hx).gw.keep w k (hc x hx), (h.ok x hx).lo, (h.ok x hx).sm⟩, h.pw⟩
theorem Fc.lt {s : St} {lo : Nat} {l : List Ce} (h : Fc s lo l) (w : Wf s) {x : Ce} (hx : x ∈ l) (hq : x.q ≠ none) : x.γ < s.nx := (h.ok x hx).gw.ltn w hq
theorem Fc.app {s : St} {lo lo' : Nat} {l m : List Ce} (h : Fc s lo l) (k : Fc s lo' m) (hl : lo ≤ lo') (hx : ∀ x ∈ l, ∀ y ∈ m, x.q ≠ none → y.q ≠ none → x.γ ≠ y.γ) : Fc s lo (l ++ m) :=
 ⟨fun x hm => by
  rcases List.mem_append.1 hm with hm | hm
  ·exact h.ok x hm
  ·exact ⟨(k.ok x hm).gw, fun hq => Nat.le_trans hl ((k.ok x hm).lo hq), (k.ok x hm).sm⟩, List.pairwise_append.2 ⟨h.pw, k.pw, hx⟩⟩
theorem Fc.sub {s : St} {lo : Nat} {l m : List Ce} (h : Fc s lo l) (k : m.Sublist l) : Fc s lo m := ⟨fun x hx => h.ok x (k.subset hx), h.pw.sublist k⟩
abbrev EC := List (Ce × Ce)
def efl (M : EC) : List Ce := M.flatMap fun p => [p.1, p.2]
def ecs (M : EC) : List Value := M.flatMap fun p => [p.1.v, p.2.v]
theorem ecs_length : ∀ M : EC, (ecs M).length = M.length * 2
 | [] => rfl
 | p :: M => by
  show ([p.1.v, p.2.v] ++ ecs M).length = _
  simp only [List.length_append, ecs_length M, List.length_cons, List.length_nil]; omega
structure Res (lo : Nat) (s : St) (q : Option Addr) (n c : Nat) (γ : Nat) (M : EC) : Prop where
 gw : Gw s q n c 2 (ecs M) γ
 fc : Fc s lo (efl M)
 lo : q ≠ none → lo ≤ γ
 ne : ∀ x ∈ efl M, x.q ≠ none → q ≠ none → x.γ ≠ γ
theorem Res.len {lo : Nat} {s : St} {q : Option Addr} {n c γ : Nat} {M : EC} (h : Res lo s q n c γ M) : M.length = n := by
 have := h.gw.len
 rw [ecs_length] at this
 omega
theorem Res.kp {C : Nat → Prop} {lo : Nat} {s s' : St} {q : Option Addr} {n c γ : Nat} {M : EC} (h : Res lo s q n c γ M) (w : Wf s) (k : Kp C s s') (hc : ∀ c, lo ≤ c → ¬ C c) : Res lo s' q n c γ M :=
 ⟨h.gw.keep w k fun hq => hc _ (h.lo hq), h.fc.kp w k fun x hx hq => hc _ ((h.fc.ok x hx).lo hq), h.lo, h.ne⟩
theorem Res.kn {lo : Nat} {s s' : St} {q : Option Addr} {n c γ : Nat} {M : EC} (h : Res lo s q n c γ M) (w : Wf s) (k : Kn s s') : Res lo s' q n c γ M := h.kp w k fun _ _ => id
theorem Res.at {lo : Nat} {s : St} {q : Option Addr} {n c γ : Nat} {M : EC} (h : Res lo s q n c γ M) : At s q (ecs M) := h.gw.sl.at
theorem Dt.kpc {C : Nat → Prop} {s0 s s' : St} {b γ : Nat} {l : List El} (h : Dt s0 s b l γ) (k : Kp C s s') (hc : ∀ c, C c → s0.nx ≤ c) (hg : ¬ C γ) : Dt s0 s' b l γ := ⟨h.w0, h.kp.trans (k.mono hc), h.rw.kp h.wf k hg, h.ge, h.ks⟩
end Go.Sy
namespace Go.Sy
open Go Go.Ev
theorem pureRun_bind {α β : Type} {P : Program} (m : Sem α) (f : α → Sem β) : pureRun P (m >>= f) = (match pureRun P m with | some a => pureRun P (f a) | none => none) := by
 induction m with
 | pure a => rfl
 | program k ih => exact ih P
 | _ => rfl
theorem pureRun_und {P : Program} {t : TypeId} {d : TypeDesc} (h : P.underlying t = some d) : pureRun P (underlying t) = some d := by
 show pureRun P (match P.underlying t with | some d => pure d | none => stuck "no such type") = _
 rw [h]; rfl
theorem pureRun_size {P : Program} {t : TypeId} {n : Nat} (h : sizeOfT P t = some n) : pureRun P (sizeOf t) = some n := by
 unfold sizeOfT at h
 split at h
 case h_2 => cases h
 rename_i i hi
 cases h
 show pureRun P ((match P.info? t with | some i => pure i | none => stuck "no such type") >>= fun i => pure i.size) = _
 rw [hi]; rfl
section
variable {X : Fx} {env : Env} {s : St}
theorem Xv.slN {t t0 n0 e t1 size : Nat} {z0 z : Option (List Value)} {ke : Sh} {x y : Operand} {k : IntKind} (ht : tk X.B.T t = some ⟨t0, n0, .sl e, z0⟩) (he : tk X.B.T e = some ⟨t1, size, ke, z⟩) (hx : ev env x = some (.slice none 0 0)) (hy : ev env y = some (.int k (.ofNat 0))) :
  Xv X (.slice t x none (some y) none) env s (.slice none 0 0) s ∧ Xv X (.slice t x (some y) none none) env s (.slice none 0 0) s := by
 have hu : X.P.underlying t = some (.slice e) := X.B.un ht
 have hs : sizeOfT X.P e = some size := X.B.sz he
 constructor
 ·intro tm hf
  show xSlice X.P t (opd tm x) none (some (opd tm y)) none s = _
  rw [ev_opd hf hx, ev_opd hf hy]
  unfold xSlice
  simp only [hu]
  show ofPure X.P (Instr.slice t (.slice none 0 0) none (some (.int k (.ofNat 0))) none) s = _
  unfold ofPure Instr.slice
  rw [pureRun_bind, pureRun_und hu]
  simp only [Instr.sliceBounds, Instr.sliceBound, asIntOf, pureRun_bind, pureRun_size hs]
  rfl
 ·intro tm hf
  show xSlice X.P t (opd tm x) (some (opd tm y)) none none s = _
  rw [ev_opd hf hx, ev_opd hf hy]
  unfold xSlice
  simp only [hu]
  show ofPure X.P (Instr.slice t (.slice none 0 0) (some (.int k (.ofNat 0))) none none) s = _
  unfold ofPure Instr.slice
  rw [pureRun_bind, pureRun_und hu]
  simp only [Instr.sliceBounds, Instr.sliceBound, asIntOf, pureRun_bind, pureRun_size hs]
  rfl
theorem At.drop {s : St} {b o : Nat} {cs : List Value} (h : At s (some ⟨b, o, none⟩) cs) {n : Nat} (hn : n ≤ cs.length) : At s (some ⟨b, o + n, none⟩) (cs.drop n) := by
 rcases h with ⟨rfl, h⟩ | ⟨b', o', h, hr⟩
 ·rcases h with h | ⟨_, _, _, h⟩ <;> cases h
 ·cases h
  obtain ⟨l, h1, h2, h3⟩ := readAt_some hr
  refine .inr ⟨b, o + n, rfl, ?_⟩
  rw [List.length_drop] at h2 ⊢
  rw [readAt_of h1 (by rw [List.length_drop]; omega)]
  congr 1
  rw [h3, List.drop_take, List.drop_drop]
  congr 1
  rw [List.length_take, List.length_drop]; omega
end
section
variable {X : Fx} {env : Env} {df : List Deferred} {s : St} {Q : Post} {all os : List Oper} {d : Option Nat} {ty : TypeId} {pos : String} {af : Array Edge} {g : Option (Nat × Bool)}
end
end Go.Sy
