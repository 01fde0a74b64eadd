import Derived.Test.YtddpcoglbmlgcaaGreatDoorHkzz
import Derived.Test.YtddpcoglbmlgcaaGreatDoorC1zz
import Derived.Test.YtddpcoglbmlgcaaGreatDoorCards
import Derived.Test.YtddpcoglbmlgcaaGreatDoorTie
import Derived.ProofKit
import Derived.OpenShut
import Derived.Deep.DeepHandedRow
import Derived.Lib.LaidTab
import Derived.Lib.LaidU8
import Derived.Test.YtddpcoglbmlgcaaGreatDoorNDczz
/-
  What the rows list: the tables; a world for the witness.
-/
namespace Go.Proofs.YtddpcoglbmlgcaaGreatDoor.Dg
open Go Go.Ev Go.ChangeShapes Go.WideShapes Go.ChangeAt Go.RowKit
theorem own : ownKnob Tryz.prog.godebug = none := by kernel_rfl
theorem mixed : Tryz.prog.follows .mixedOrders = true := by kernel_rfl
theorem tab_of {W : World} {name : String} {k : IntKind} {zs : List Int} {g : Nat} {t e : TypeId} {n : Nat}
    (hg : Tryz.prog.globalNamed name = some g) (hty : (Tryz.prog.globals[g]?).map (·.type) = some t) (ht : Tryz.prog.underlying t = some (.array n e)) (he : Tryz.prog.underlying e = some (.int k)) (hce : Tryz.prog.cellsOf e = 1) (hct : Tryz.prog.cellsOf t = n)
    (h : Lib.VarReads Tryz.prog W name (Lib.tabData k zs)) : Lib.TabIs Tryz.prog W name k zs := by
  obtain ⟨g', t', cs, fuel, p, hg', ht', hvar, hd⟩ := h
  obtain rfl := Option.some.inj (hg.symm.trans hg')
  obtain rfl := Option.some.inj (hty.symm.trans ht')
  unfold Lib.TabIs
  rw [hvar, ← Lib.cells_of_tab ht he hce hct hd]
def HL : List Nat := [1779033703, 3144134277, 1013904242, 2773480762, 1359893119, 2600822924, 528734635, 1541459225]
def HV : List Value := HL.map fun n => .int .u32 (.ofNat n)
def HI : List Int := [1779033703, 3144134277, 1013904242, 2773480762, 1359893119, 2600822924, 528734635, 1541459225]
def KI : List Int := [1116352408, 1899447441, 3049323471, 3921009573, 961987163, 1508970993, 2453635748, 2870763221, 3624381080, 310598401, 607225278, 1426881987, 1925078388, 2162078206, 2614888103, 3248222580, 3835390401, 4022224774, 264347078, 604807628, 770255983, 1249150122, 1555081692, 1996064986, 2554220882, 2821834349, 2952996808, 3210313671, 3336571891, 3584528711, 113926993, 338241895, 666307205, 773529912, 1294757372, 1396182291, 1695183700, 1986661051, 2177026350, 2456956037, 2730485921, 2820302411, 3259730800, 3345764771, 3516065817, 3600352804, 4094571909, 275423344, 430227734, 506948616, 659060556, 883997877, 958139571, 1322822218, 1537002063, 1747873779, 1955562222, 2024104815, 2227730452, 2361852424, 2428436474, 2756734187, 3204031479, 3329325298]
/-- A table in memory. -/
theorem tab_heap {W : World} {name : String} {g : Nat} {zs : List Int} {ns : List Nat} (hg : Tryz.prog.globalNamed name = some g) (h : Lib.TabIs Tryz.prog W name .u32 zs) (hz : zs = ns.map fun n => ((n : Nat) : Int)) (hn : 0 < ns.length) :
    ∃ c t fr, W.heap[g]? = some (.cells c t fr) ∧ ∀ (i : Nat) (v : Value), (ns.map fun n => (Value.int .u32 (.ofNat n)))[i]? = some v → c[i]? = some v ∧ plain 1 v = true := by
  have hc : ∀ i, i < ns.length → W.cell? ⟨g, i, none⟩ = some (.int .u32 (.ofNat (ns.getD i 0))) := by
    intro i hi
    have := h.cell hg i (by rw [hz, List.length_map]; exact hi)
    rw [this, hz, List.getD_eq_getElem?_getD, List.getElem?_map, List.getD_eq_getElem?_getD, List.getElem?_eq_getElem hi]
    rfl
  have h0 := hc 0 hn
  unfold World.cell? at h0
  split at h0
  case h_2 => cases h0
  rename_i c t fr hw
  refine ⟨c, t, fr, hw, fun i v hv => ?_⟩
  rw [List.getElem?_map] at hv
  rcases Nat.lt_or_ge i ns.length with hi | hi
  · rw [List.getElem?_eq_getElem hi] at hv
    cases hv
    have h1 := hc i hi
    unfold World.cell? at h1
    rw [hw] at h1
    rw [List.getD_eq_getElem?_getD, List.getElem?_eq_getElem hi] at h1
    exact ⟨h1, rfl⟩
  · rw [List.getElem?_eq_none hi] at hv; cases hv
theorem gFirst : Tryz.prog.globalNamed "cairn/sha.first" = some 0 := by kernel_rfl
theorem gRoots : Tryz.prog.globalNamed "cairn/sha.roots" = some 2 := by kernel_rfl
theorem gRounds : Tryz.prog.globalNamed "cairn/cairnref02.rounds" = some 1 := by kernel_rfl
theorem tFirst : (Tryz.prog.globals[0]?).map (·.type) = some 175 := by kernel_rfl
theorem tRoots : (Tryz.prog.globals[2]?).map (·.type) = some 202 := by kernel_rfl
theorem tRounds : (Tryz.prog.globals[1]?).map (·.type) = some 202 := by kernel_rfl
theorem cells32 : Tryz.prog.cellsOf 78 = 1 := by kernel_rfl
theorem cells8 : Tryz.prog.cellsOf 175 = 8 := by kernel_rfl
theorem cells64 : Tryz.prog.cellsOf 202 = 64 := by kernel_rfl
def tabs : List (Nat × List Value) := [(0, HV), (2, KV), (1, KV)]
theorem tabs_met {W : World} {l : List (String × DataW Unit)} (h : laidMet Tryz.prog l W) (m1 : ("cairn/sha.first", Rows.laid_cairn_sha_first) ∈ l) (m2 : ("cairn/sha.roots", Rows.laid_cairn_sha_roots) ∈ l) (m3 : ("cairn/cairnref02.rounds", Rows.laid_cairn_cairnref02_rounds) ∈ l) :
    ∀ p ∈ tabs, p.1 < 1000 ∧ ∃ c t fr, W.heap[p.1]? = some (.cells c t fr) ∧ ∀ (i : Nat) (v : Value), p.2[i]? = some v → c[i]? = some v ∧ plain 1 v = true := by
  have t1 : Lib.TabIs Tryz.prog W "cairn/sha.first" .u32 HI := tab_of gFirst tFirst Tryz.underlying175 Tryz.underlying78 cells32 cells8 (Lib.laidMet.reads h m1)
  have t2 : Lib.TabIs Tryz.prog W "cairn/sha.roots" .u32 KI := tab_of gRoots tRoots Tryz.underlying202 Tryz.underlying78 cells32 cells64 (Lib.laidMet.reads h m2)
  have t3 : Lib.TabIs Tryz.prog W "cairn/cairnref02.rounds" .u32 KI := tab_of gRounds tRounds Tryz.underlying202 Tryz.underlying78 cells32 cells64 (Lib.laidMet.reads h m3)
  intro p hp
  rcases List.mem_cons.1 hp with rfl | hp
  · exact ⟨by decide, tab_heap (ns := HL) gFirst t1 (by kernel_rfl) (by decide)⟩
  rcases List.mem_cons.1 hp with rfl | hp
  · exact ⟨by decide, tab_heap (ns := KL) gRoots t2 (by kernel_rfl) (by decide)⟩
  rcases List.mem_cons.1 hp with rfl | hp
  · exact ⟨by decide, tab_heap (ns := KL) gRounds t3 (by kernel_rfl) (by decide)⟩
  cases hp
def setCells (c : Array Value) : Obj → Obj
  | .cells _ t frozen => .cells c t frozen
  | o => o
/-- A WORLD FOR THE WITNESS: the settled one, the tables holding what their initialisers lay. -/
def LaidIs (os : Os) (V : World) : Prop := V = { World.holding Tryz.prog os ⟨#[], #[], []⟩ with heap := ((((World.holding Tryz.prog os ⟨#[], #[], []⟩).heap.modify 0 (setCells ⟨HV⟩)).modify 2 (setCells ⟨KV⟩)).modify 1 (setCells ⟨KV⟩)) }
end Go.Proofs.YtddpcoglbmlgcaaGreatDoor.Dg
/-
  The evaluator: bytes that are no form of an item, at a stroke (what the program does there is to panic and to recover).
-/
namespace Go.Proofs.YtddpcoglbmlgcaaGreatDoor
open Go Go.Ev Go.RowKit
/-- Single cells of which nothing is known. -/
def badOut (p e : Nat) (t : St) : Rv := .ok (.tuple ⟨[.agg ⟨[.bool false, .chan (some 0), .chan (some 0)]⟩, .int .i64 (.ofNat p), .int .i64 (.ofNat e)]⟩) t
def badDec (o : Option (List Nat)) (t : St) : Rv := match o with
  | none => .no
  | some l => match dec l with
    | .bad p e => fN p fun p => fN e fun e => badOut p e t
    | .ok _ => .no
def badH (args : List Value) (t : St) : Rv := match args with
  | [.slice none n _] => cond (Nat.beq n 0) (badDec (some []) t) .no
  | [.slice (some ⟨b, off, none⟩) n c] => cond (Nat.ble n (capOf c) && Nat.ble n 1048577) (badDec (Dg.bytesO (readAt t b off n)) t) .no
  | _ => .no
theorem own_cells {w : World} {lo hi : Nat} {vb vi : Value} (h : Own w lo hi (.mk false [] []) vb vi) : one vb = true ∧ one vi = true := by
  cases h with
  | str hb _ _ _ =>
    refine ⟨?_, rfl⟩
    rcases hb.2 with ⟨rfl, _⟩ | ⟨g, cap, cur, rfl, _⟩ <;> rfl
theorem badDec_call {N : Nat} {E : En} {s s' : St} {w : World} {v : Value} {l : List Nat} {a : Option Addr} {b off c : Nat} (h : Ev.Rel N E s w) (hv : Vw w a b off l) (hc : l.length ≤ c) (hl : l.length ≤ 140737488355328) (hx : badDec (some l) s = .ok v s') :
    Calls Tryz.prog 62 ⟨[.slice a l.length c]⟩ w fun e w' => ∃ E' v', e = .returned v' ∧ VR E' v v' ∧ Stp N E s w E' s' w' := by
  unfold badDec at hx
  simp only at hx
  split at hx
  case h_2 => cases hx
  rename_i p e hd
  rw [fN_eq, fN_eq] at hx
  unfold badOut at hx
  cases hx
  refine (decode_any w a b off c l hv hc hl).mono fun r w' hr => ?_
  obtain ⟨vb, vi, rfl, hown, hbel⟩ := hr
  have hX : decX l = .mk false [] [] := by unfold decX; rw [hd]
  have hP : decP l = p := by unfold decP; rw [hd]
  have hE : decE l = e := by unfold decE; rw [hd]
  rw [hX] at hown
  obtain ⟨o1, o2⟩ := own_cells hown
  refine ⟨E, _, rfl, ?_, stp_below h hbel⟩
  rw [hX, hP, hE]
  exact .tup _ _ (.cons _ _ _ _ (.agg _ _ (.cons _ _ _ _ (.bool false) (.cons _ _ _ _ (.top _ o1) (.cons _ _ _ _ (.top _ o2) .nil)))) (.cons _ _ _ _ (.int .i64 _) (.cons _ _ _ _ (.int .i64 _) .nil)))
theorem badH_ok {N : Nat} {args args' : List Value} {s s' : St} {v : Value} {E : En} {w : World} (h : Ev.Rel N E s w) (ha : VRs E args args') (hx : badH args s = .ok v s') :
    Calls Tryz.prog 62 ⟨args'⟩ w fun e w' => ∃ E' v', e = .returned v' ∧ VR E' v v' ∧ Stp N E s w E' s' w' := by
  unfold badH at hx
  split at hx
  · rename_i n c
    obtain ⟨q, rfl, hq⟩ := ha.one_inv
    obtain rfl := plain_eq 1 _ _ rfl hq
    cases hn : Nat.beq n 0 with
    | false => rw [hn] at hx; cases hx
    | true =>
      rw [hn] at hx
      obtain rfl := Nat.eq_of_beq_eq_true hn
      exact badDec_call (l := []) (b := 0) (off := 0) h ⟨fun h0 => absurd h0 (by simp), fun i hi => absurd hi (by simp), fun i hi => absurd hi (by simp), by simp⟩ (by simp) (by simp) hx
  · rename_i b off n c
    obtain ⟨q, rfl, hq⟩ := ha.one_inv
    obtain ⟨hb, c', rfl, hcap, _⟩ := hq.sl_inv
    cases hn : (Nat.ble n (capOf c) && Nat.ble n 1048577) with
    | false => rw [hn] at hx; cases hx
    | true =>
      rw [hn] at hx
      obtain ⟨h1, h2⟩ := Bool.and_eq_true_iff.1 hn
      have h1' := Nat.le_of_ble_eq_true h1
      have h2' := Nat.le_of_ble_eq_true h2
      have hx1 : badDec (Dg.bytesO (readAt s b off n)) s = .ok v s' := hx
      cases hbs : Dg.bytesO (readAt s b off n) with
      | none => rw [hbs] at hx1; cases hx1
      | some l =>
        rw [hbs] at hx1
        unfold Dg.bytesO at hbs
        split at hbs
        case h_2 => cases hbs
        rename_i cells hcells
        obtain ⟨m1, m2⟩ := Dg.bytesN_some hbs
        subst m1
        have hlen : l.length = n := by
          have := readAt_len hcells
          rwa [List.length_map] at this
        subst hlen
        obtain ⟨r', k1, k2⟩ := readAt_cell Tryz.prog h.obs hcells
        have e1 := k1.ints_eq
        subst e1
        have hg : ∀ i, i < l.length → l[i]? = some (gd l i) := by
          intro i hi
          unfold gd
          rw [List.getD_eq_getElem?_getD, List.getElem?_eq_getElem hi]; rfl
        have hV : Vw w (some ⟨E.ι b, E.sh b + off, none⟩) (E.ι b) (E.sh b + off) l := by
          refine ⟨fun _ => rfl, fun i hi => ?_, fun i hi => ?_, by omega⟩
          · exact k2 i _ (by rw [List.getElem?_map, hg i hi]; rfl)
          · have : gd l i < 256 := m2 _ (List.mem_of_getElem? (hg i hi))
            omega
        exact badDec_call h hV (by omega) (by omega) hx1
  · cases hx
/-- The three functions. -/
def hooksX (f : FuncId) : Option (List Value → St → Rv) := cond (Nat.beq f 62) (some badH) (Dg.hooks f)
theorem hooksX_ok {N : Nat} : HookOk N Tryz.prog hooksX := by
  intro f g hf args args' s s' v E w h ha hx
  unfold hooksX at hf
  cases h1 : Nat.beq f 62 with
  | true =>
    rw [h1] at hf
    cases hf
    obtain rfl := Nat.eq_of_beq_eq_true h1
    exact badH_ok h ha hx
  | false =>
    rw [h1] at hf
    exact Dg.hooks_ok hf h ha hx
end Go.Proofs.YtddpcoglbmlgcaaGreatDoor
