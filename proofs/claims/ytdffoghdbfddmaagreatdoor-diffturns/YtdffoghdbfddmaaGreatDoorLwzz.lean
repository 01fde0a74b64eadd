import Derived.Test.YtdffoghdbfddmaaGreatDoorHkzz
import Derived.Test.YtdffoghdbfddmaaGreatDoorC1zz
import Derived.Test.YtdffoghdbfddmaaGreatDoorCards
import Derived.Test.YtdffoghdbfddmaaGreatDoorTie
import Derived.ProofKit
import Derived.OpenShut
import Derived.Deep.DeepHandedRow
import Derived.Lib.LaidTab
import Derived.Lib.LaidU8
/-
  The evaluator over any input: from the machine's world to a state, and back.
-/
namespace Go.Sy
open Go Go.Ev Go.RowKit
/-- A cell as the evaluator sees it: addresses by a thousand further on. -/
def ab (H : Nat) (v : Value) : Value := match v with
  | .bool b => .bool b
  | .int k n => .int k n
  | .string t => .string t
  | .pointer none => .pointer none
  | .pointer (some ⟨b, o, none⟩) => if b < H then .pointer (some ⟨1000 + b, o, none⟩) else .chan (some 0)
  | .slice none n c => .slice none n c
  | .slice (some ⟨b, o, p⟩) n c => if n = 0 then .slice (some ⟨0, 0, some 0⟩) 0 0 else if b < H ∧ p = none then .slice (some ⟨1000 + b, o, none⟩) n (sure c) else .chan (some 0)
  | .nilFunc => .nilFunc
  | .nilIface => .nilIface
  | .map none => .map none
  | v => .chan (if one v = true then some 0 else none)
/-- An argument: a cell, or a struct's cells. -/
def abv (H : Nat) (v : Value) : Value := match v with
  | .agg cs => .agg ⟨cs.toList.map (ab H)⟩
  | v => ab H v
def En0 (H : Nat) : En := { nx := 1000 + H, ι := fun b => if b < 1000 then b else b - 1000, sh := fun _ => 0, sz := fun _ => 0 }
theorem ab_VR (H : Nat) (v : Value) : VR (En0 H) (ab H v) v := by
  have hι : ∀ b, (En0 H).ι (1000 + b) = b := fun b => by show (if 1000 + b < 1000 then 1000 + b else 1000 + b - 1000) = b; rw [if_neg (by omega)]; omega
  unfold ab
  split
  · exact .bool _
  · exact .int _ _
  · exact .str _
  · exact .pnil
  · rename_i b o
    split
    · rename_i h
      have := VR.ptr (E := En0 H) (1000 + b) o (by show 1000 + b < 1000 + H; omega)
      rw [hι, show (En0 H).sh (1000 + b) + o = o from Nat.zero_add o] at this; exact this
    · exact .top _ rfl
  · exact .snil _ _
  · rename_i b o p n c
    split
    · rename_i h
      subst h
      exact .slV _ 0 _ _
    · split
      · rename_i h
        obtain ⟨h, rfl⟩ := h
        have := VR.slS (E := En0 H) (1000 + b) o n c (by show 1000 + b < 1000 + H; omega)
        rw [hι, show (En0 H).sh (1000 + b) + o = o from Nat.zero_add o] at this; exact this
      · exact .top _ rfl
  · exact .fnil
  · exact .inil
  · exact .mnil
  · split
    · rename_i h; exact .top _ h
    · exact .any _
theorem abs_VRs (H : Nat) : ∀ l : List Value, VRs (En0 H) (l.map (ab H)) l
  | [] => .nil
  | v :: l => .cons _ _ _ _ (ab_VR H v) (abs_VRs H l)
theorem abv_VR (H : Nat) (v : Value) : VR (En0 H) (abv H v) v := by
  unfold abv
  split
  · rename_i cs; exact .agg _ _ (abs_VRs H cs.toList)
  · exact ab_VR H v
theorem abvs_VRs (H : Nat) : ∀ l : List Value, VRs (En0 H) (l.map (abv H)) l
  | [] => .nil
  | v :: l => .cons _ _ _ _ (abv_VR H v) (abvs_VRs H l)
def ob0 (w : World) (b : Nat) : Option Ob := match w.heap[b]? with
  | some (.cells c _ _) => some (.ro (c.toList.map (ab w.heap.size)))
  | _ => none
def put0 (w : World) (t : Tr Ob) (b : Nat) : Tr Ob := match ob0 w b with
  | some o => (if b < 1000 then t.set o b else t).set o (1000 + b)
  | none => t
def hp0 (w : World) : Nat → Tr Ob
  | 0 => .nil
  | n + 1 => put0 w (hp0 w n) n
theorem hp0_get (w : World) : ∀ n k, (hp0 w n).get k = if k < 1000 then (if k < n then ob0 w k else none) else (if k - 1000 < n then ob0 w (k - 1000) else none)
  | 0, k => by show (Tr.nil : Tr Ob).get k = _; rw [Tr.get_nil]; split <;> rfl
  | n + 1, k => by
    have ih := hp0_get w n
    show (put0 w (hp0 w n) n).get k = _
    unfold put0
    cases ho : ob0 w n with
    | none =>
      simp only [ih]
      by_cases h1 : k < 1000
      · rw [if_pos h1, if_pos h1]
        by_cases h2 : k = n
        · subst h2; rw [if_neg (Nat.lt_irrefl _), if_pos (Nat.lt_succ_self _), ho]
        · by_cases h3 : k < n
          · rw [if_pos h3, if_pos (by omega)]
          · rw [if_neg h3, if_neg (by omega)]
      · rw [if_neg h1, if_neg h1]
        by_cases h2 : k - 1000 = n
        · rw [if_neg (by omega), if_pos (by omega), h2, ho]
        · by_cases h3 : k - 1000 < n
          · rw [if_pos h3, if_pos (by omega)]
          · rw [if_neg h3, if_neg (by omega)]
    | some o =>
      simp only [get_set']
      by_cases h0 : k = 1000 + n
      · rw [if_pos h0, if_neg (by omega), if_pos (by omega), show k - 1000 = n by omega, ho]
      · rw [if_neg h0]
        by_cases h1 : k < 1000
        · rw [if_pos h1]
          by_cases h2 : k = n
          · subst h2; rw [if_pos h1, get_set', if_pos rfl, if_pos (Nat.lt_succ_self _), ho]
          · have e : (if n < 1000 then (hp0 w n).set o n else hp0 w n).get k = (hp0 w n).get k := by
              split
              · rw [get_set', if_neg h2]
              · rfl
            rw [e, ih, if_pos h1]
            by_cases h3 : k < n
            · rw [if_pos h3, if_pos (by omega)]
            · rw [if_neg h3, if_neg (by omega)]
        · rw [if_neg h1]
          have e : (if n < 1000 then (hp0 w n).set o n else hp0 w n).get k = (hp0 w n).get k := by
            split
            · rw [get_set', if_neg (by omega)]
            · rfl
          rw [e, ih, if_neg h1]
          by_cases h3 : k - 1000 < n
          · rw [if_pos h3, if_pos (by omega)]
          · rw [if_neg h3, if_neg (by omega)]
/-- A world as it is found: all that lies there is read alone. -/
def st0 (w : World) : St := .mk (hp0 w w.heap.size) (1000 + w.heap.size) .nil
theorem st0_get (w : World) (k : Nat) : (st0 w).hp.get k = if k < 1000 then ob0 w k else ob0 w (k - 1000) := by
  show (hp0 w w.heap.size).get k = _
  rw [hp0_get]
  have hn : ∀ b, ¬ b < w.heap.size → ob0 w b = none := fun b hb => by unfold ob0; rw [Array.getElem?_eq_none (by omega)]
  split
  · split
    · rfl
    · rename_i h; rw [hn _ h]
  · split
    · rfl
    · rename_i h; rw [hn _ h]
theorem ob0_some {w : World} {b : Nat} {o : Ob} (h : ob0 w b = some o) : ∃ c t fr, w.heap[b]? = some (.cells c t fr) ∧ o = .ro (c.toList.map (ab w.heap.size)) ∧ b < w.heap.size := by
  unfold ob0 at h
  split at h
  · rename_i c t fr hc; cases h; exact ⟨c, t, fr, hc, rfl, (Array.getElem?_eq_some_iff.1 hc).1⟩
  · cases h
theorem st0_some {w : World} {k : Nat} {o : Ob} (h : (st0 w).hp.get k = some o) : ∃ c t fr, w.heap[(En0 w.heap.size).ι k]? = some (.cells c t fr) ∧ o = .ro (c.toList.map (ab w.heap.size)) ∧ (En0 w.heap.size).ι k < w.heap.size ∧ k < 1000 + w.heap.size := by
  rw [st0_get] at h
  show ∃ c t fr, w.heap[if k < 1000 then k else k - 1000]? = _ ∧ _ ∧ (if k < 1000 then k else k - 1000) < _ ∧ _
  split at h
  · rename_i hk; rw [if_pos hk]; obtain ⟨c, t, fr, h1, h2, h3⟩ := ob0_some h; exact ⟨c, t, fr, h1, h2, h3, by omega⟩
  · rename_i hk; rw [if_neg hk]; obtain ⟨c, t, fr, h1, h2, h3⟩ := ob0_some h; exact ⟨c, t, fr, h1, h2, h3, by omega⟩
theorem rel0 (w : World) : Rel w.heap.size (En0 w.heap.size) (st0 w) w := by
  refine ⟨rfl, by show 1000 ≤ 1000 + w.heap.size; omega, Nat.le_succ _, fun b hb => ⟨if_pos hb, rfl⟩, Nat.le_refl _, fun b o hb => ?_, fun b o hb ho => ?_, fun b o b' o' hb _ ho => ?_, fun b o hb hg => ?_, fun b o hb _ _ => ?_⟩
  · obtain ⟨c, t, fr, h1, rfl, _, h3⟩ := st0_some hb
    refine ⟨h3, c, t, fr, h1, fun i v hv => ?_⟩
    rw [List.getElem?_map, Array.getElem?_toList] at hv
    cases hc : c[i]? with
    | none => rw [hc] at hv; cases hv
    | some u => rw [hc] at hv; cases hv; exact ⟨u, by show c[0 + i]? = _; rw [Nat.zero_add]; exact hc, ab_VR _ u⟩
  · obtain ⟨c, t, fr, h1, rfl, _⟩ := st0_some hb; exact ho.elim
  · obtain ⟨c, t, fr, h1, rfl, _⟩ := st0_some hb; exact ho.elim
  · obtain ⟨c, t, fr, h1, rfl, _⟩ := st0_some hb; exact absurd rfl hg
  · obtain ⟨c, t, fr, h1, rfl, h2, _⟩ := st0_some hb; exact h2
theorem wf0 (w : World) : Wf (st0 w) := by
  have hg : ∀ g, (st0 w).gr.get g = none := fun g => Tr.get_nil
  refine ⟨fun b o hb => ?_, fun g ms m o h => ?_, fun b cs hb => hg b, fun b cs g hb => ?_, fun b cs g hb => ?_, fun g ms h => ?_, fun g ms m h => ?_, by show 0 < 1000 + w.heap.size; omega⟩
  · obtain ⟨c, t, fr, _, rfl, _, h⟩ := st0_some hb; exact ⟨h, h⟩
  · rw [hg] at h; cases h
  · obtain ⟨c, t, fr, _, h, _⟩ := st0_some hb; cases h
  · obtain ⟨c, t, fr, _, h, _⟩ := st0_some hb; cases h
  · rw [hg] at h; cases h
  · rw [hg] at h; cases h
/-- What a law comes to over the state as it is found, the machine comes to. -/
theorem calls0 {B : Bx} (hm : B.P.follows .mixedOrders = true) {f : FuncId} {args : List Value} {w : World} (hH : HookOk w.heap.size B.P B.hook) (h : Cl B (.call f (args.map (abv w.heap.size))) (st0 w) fun v _ => v = .bool true) :
    Calls B.P f ⟨args⟩ w fun e w' => e = .returned (.bool true) ∧ Below w.heap.size w w' := by
  obtain ⟨v, s', ⟨n, hr⟩, rfl⟩ := h
  refine (eval_calls (fun rec R => draw_ok hm R) hH (rel0 w) (abvs_VRs _ args) (hr n (Nat.le_refl _))).mono fun e W' ⟨E', v', h1, h2, h3⟩ => ?_
  rw [h2.bool_inv] at h1
  exact ⟨h1, h3.below (rel0 w)⟩
theorem hook0 {N : Nat} {P : Program} : HookOk N P fun _ => none := fun e => by cases e
/-- Cells that lie in the world. -/
theorem at0 {w : World} {b o : Nat} {c : Array Value} {t : TypeId} {fr : Nat × Nat} {cs : List Value} (h : w.heap[b]? = some (.cells c t fr)) (hc : ∀ i, i < cs.length → ∃ v, c[o + i]? = some v ∧ cs[i]? = some (ab w.heap.size v)) (hz : cs ≠ []) : At (st0 w) (some ⟨1000 + b, o, none⟩) cs := by
  have hg : (st0 w).hp.get (1000 + b) = some (.ro (c.toList.map (ab w.heap.size))) := by
    rw [st0_get, if_neg (by omega), show 1000 + b - 1000 = b by omega]; unfold ob0; rw [h]
  refine .inr ⟨_, _, rfl, ?_⟩
  have hcl : c.toList.length = c.size := Array.length_toList
  have hl : o + cs.length ≤ c.size := by
    have hp : 0 < cs.length := List.length_pos_iff.2 hz
    obtain ⟨v, h1, _⟩ := hc (cs.length - 1) (by omega)
    have := (Array.getElem?_eq_some_iff.1 h1).1; omega
  rw [readAt_of (.inl hg) (by rw [List.length_drop, List.length_map]; omega)]
  refine congrArg some (List.ext_getElem? fun i => ?_)
  by_cases hi : i < cs.length
  · obtain ⟨v, h1, h2⟩ := hc i hi
    rw [List.getElem?_take_of_lt hi, List.getElem?_drop, List.getElem?_map, Array.getElem?_toList, h1, h2]; rfl
  · rw [List.getElem?_eq_none (by rw [List.length_take, List.length_drop, List.length_map]; omega), List.getElem?_eq_none (by omega)]
end Go.Sy
/-
  The evaluator over any input: lists of entries.
-/
namespace Go.Sy
open Go Go.Ev
abbrev Ety := List Nat × List Nat
def key (E : List Ety) (i : Nat) : List Nat := (E.getD i ([], [])).1
def val (E : List Ety) (i : Nat) : List Nat := (E.getD i ([], [])).2
/-- A cell that is bytes. -/
def BsV (s : St) (v : Value) (A : List Nat) : Prop := ∃ q c, v = .slice q A.length c ∧ Bs s q A ∧ A.length < 2 ^ 60
theorem BsV.kn {s s' : St} {v : Value} {A : List Nat} (h : BsV s v A) (w : Wf s) (k : Kn s s') : BsV s' v A := let ⟨q, c, h1, h2, h3⟩ := h; ⟨q, c, h1, h2.kn w k, h3⟩
/-- Cells that are entries. -/
def Ent (s : St) : List Value → List Ety → Prop
  | [], [] => True
  | k :: v :: cs, e :: E => BsV s k e.1 ∧ BsV s v e.2 ∧ Ent s cs E
  | _, _ => False
theorem Ent.length {s : St} : ∀ {cs : List Value} {E : List Ety}, Ent s cs E → cs.length = E.length * 2
  | [], [], _ => rfl
  | [], _ :: _, h => h.elim
  | [_], [], h => h.elim
  | [_], _ :: _, h => h.elim
  | _ :: _ :: _, [], h => h.elim
  | _ :: _ :: cs, _ :: E, h => by have := Ent.length h.2.2; simp only [List.length_cons]; omega
theorem Ent.get {s : St} : ∀ {cs : List Value} {E : List Ety}, Ent s cs E → ∀ {i : Nat}, i < E.length → ∃ k v, cs[i * 2]? = some k ∧ cs[i * 2 + 1]? = some v ∧ BsV s k (key E i) ∧ BsV s v (val E i)
  | [], [], _, i, hi => by simp at hi
  | [], _ :: _, h, _, _ => h.elim
  | [_], [], h, _, _ => h.elim
  | [_], _ :: _, h, _, _ => h.elim
  | _ :: _ :: _, [], h, _, _ => h.elim
  | k :: v :: cs, e :: E, h, 0, _ => ⟨k, v, rfl, rfl, h.1, h.2.1⟩
  | k :: v :: cs, e :: E, h, i + 1, hi => by
    obtain ⟨k', v', h1, h2, h3, h4⟩ := Ent.get h.2.2 (i := i) (by simpa using hi)
    exact ⟨k', v', by rw [show (i + 1) * 2 = i * 2 + 1 + 1 by omega]; exact h1, by rw [show (i + 1) * 2 + 1 = i * 2 + 1 + 1 + 1 by omega]; exact h2, h3, h4⟩
theorem Ent.kn {s s' : St} (w : Wf s) (k : Kn s s') : ∀ {cs : List Value} {E : List Ety}, Ent s cs E → Ent s' cs E
  | [], [], _ => trivial
  | [], _ :: _, h => h.elim
  | [_], [], h => h.elim
  | [_], _ :: _, h => h.elim
  | _ :: _ :: _, [], h => h.elim
  | _ :: _ :: _cs, _ :: _E, h => ⟨h.1.kn w k, h.2.1.kn w k, Ent.kn w k h.2.2⟩
theorem Ent.app {s : St} {k v : Value} {e : Ety} : ∀ {cs : List Value} {E : List Ety}, Ent s cs E → BsV s k e.1 → BsV s v e.2 → Ent s (cs ++ [k, v]) (E ++ [e])
  | [], [], _, h1, h2 => ⟨h1, h2, trivial⟩
  | [], _ :: _, h, _, _ => h.elim
  | [_], [], h, _, _ => h.elim
  | [_], _ :: _, h, _, _ => h.elim
  | _ :: _ :: _, [], h, _, _ => h.elim
  | _ :: _ :: _cs, _ :: _E, h, h1, h2 => ⟨h.1, h.2.1, Ent.app h.2.2 h1 h2⟩
theorem Ent.one {s : St} : ∀ {cs : List Value} {E : List Ety}, Ent s cs E → ∀ v ∈ cs, one v = true
  | [], [], _, v, hv => by simp at hv
  | [], _ :: _, h, _, _ => h.elim
  | [_], [], h, _, _ => h.elim
  | [_], _ :: _, h, _, _ => h.elim
  | _ :: _ :: _, [], h, _, _ => h.elim
  | k :: v :: cs, e :: E, h, x, hx => by
    rcases List.mem_cons.1 hx with rfl | hx
    · obtain ⟨q, c, rfl, _⟩ := h.1; rfl
    · rcases List.mem_cons.1 hx with rfl | hx
      · obtain ⟨q, c, rfl, _⟩ := h.2.1; rfl
      · exact Ent.one h.2.2 x hx
/-- One entry's two lists, as they are loaded. -/
theorem Ent.ld {s : St} {q : Option Addr} {cs : List Value} {E : List Ety} (h : Ent s cs E) (ha : At s q cs) {i : Nat} (hi : i < E.length) :
    good q ∧ ∃ q1 c1 q2 c2, ldq s (qadd (qadd q (i * 2)) 0) = some (.slice q1 (key E i).length c1) ∧ ldq s (qadd (qadd q (i * 2)) 1) = some (.slice q2 (val E i).length c2) ∧ Bs s q1 (key E i) ∧ Bs s q2 (val E i) ∧ (key E i).length < 2 ^ 60 ∧ (val E i).length < 2 ^ 60 := by
  have hl := h.length
  obtain ⟨k, v, h1, h2, ⟨q1, c1, rfl, h3, h5⟩, ⟨q2, c2, rfl, h4, h6⟩⟩ := h.get hi
  refine ⟨At.good ha (i := i * 2) (by omega), q1, c1, q2, c2, ?_, ?_, h3, h4, h5, h6⟩
  · rw [qadd_qadd, At.ld ha (i := i * 2 + 0) (by omega), ← List.getElem?_eq_getElem]; exact h1
  · rw [qadd_qadd, At.ld ha (i := i * 2 + 1) (by omega), ← List.getElem?_eq_getElem]; exact h2
theorem ety_ext {E D : List Ety} (hl : E.length = D.length) (h : ∀ i, i < E.length → key E i = key D i ∧ val E i = val D i) : E = D := by
  refine List.ext_getElem hl fun i h1 h2 => ?_
  obtain ⟨a, b⟩ := h i h1
  unfold key val at *
  rw [List.getD_eq_getElem?_getD, List.getD_eq_getElem?_getD, List.getElem?_eq_getElem h1, List.getElem?_eq_getElem h2] at a b
  exact Prod.ext a b
end Go.Sy
/-
  What the rows list: the tables; a world for the witness.
-/
namespace Go.Proofs.YtdffoghdbfddmaaGreatDoor.Dg
open Go Go.Ev Go.ChangeShapes Go.WideShapes Go.ChangeAt Go.RowKit
theorem own : ownKnob Tryz.prog.godebug = none := by kernel_rfl
theorem mixed : Tryz.prog.follows .mixedOrders = true := by kernel_rfl
theorem tab_of {W : World} {name : String} {k : IntKind} {zs : List Int} {g : Nat} {t e : TypeId} {n : Nat}
    (hg : Tryz.prog.globalNamed name = some g) (hty : (Tryz.prog.globals[g]?).map (·.type) = some t) (ht : Tryz.prog.underlying t = some (.array n e)) (he : Tryz.prog.underlying e = some (.int k)) (hce : Tryz.prog.cellsOf e = 1) (hct : Tryz.prog.cellsOf t = n)
    (h : Lib.VarReads Tryz.prog W name (Lib.tabData k zs)) : Lib.TabIs Tryz.prog W name k zs := by
  obtain ⟨g', t', cs, fuel, p, hg', ht', hvar, hd⟩ := h
  obtain rfl := Option.some.inj (hg.symm.trans hg')
  obtain rfl := Option.some.inj (hty.symm.trans ht')
  unfold Lib.TabIs
  rw [hvar, ← Lib.cells_of_tab ht he hce hct hd]
def HL : List Nat := [1779033703, 3144134277, 1013904242, 2773480762, 1359893119, 2600822924, 528734635, 1541459225]
def HV : List Value := HL.map fun n => .int .u32 (.ofNat n)
def HI : List Int := [1779033703, 3144134277, 1013904242, 2773480762, 1359893119, 2600822924, 528734635, 1541459225]
def KI : List Int := [1116352408, 1899447441, 3049323471, 3921009573, 961987163, 1508970993, 2453635748, 2870763221, 3624381080, 310598401, 607225278, 1426881987, 1925078388, 2162078206, 2614888103, 3248222580, 3835390401, 4022224774, 264347078, 604807628, 770255983, 1249150122, 1555081692, 1996064986, 2554220882, 2821834349, 2952996808, 3210313671, 3336571891, 3584528711, 113926993, 338241895, 666307205, 773529912, 1294757372, 1396182291, 1695183700, 1986661051, 2177026350, 2456956037, 2730485921, 2820302411, 3259730800, 3345764771, 3516065817, 3600352804, 4094571909, 275423344, 430227734, 506948616, 659060556, 883997877, 958139571, 1322822218, 1537002063, 1747873779, 1955562222, 2024104815, 2227730452, 2361852424, 2428436474, 2756734187, 3204031479, 3329325298]
/-- A table in memory. -/
theorem tab_heap {W : World} {name : String} {g : Nat} {zs : List Int} {ns : List Nat} (hg : Tryz.prog.globalNamed name = some g) (h : Lib.TabIs Tryz.prog W name .u32 zs) (hz : zs = ns.map fun n => ((n : Nat) : Int)) (hn : 0 < ns.length) :
    ∃ c t fr, W.heap[g]? = some (.cells c t fr) ∧ ∀ (i : Nat) (v : Value), (ns.map fun n => (Value.int .u32 (.ofNat n)))[i]? = some v → c[i]? = some v ∧ plain 1 v = true := by
  have hc : ∀ i, i < ns.length → W.cell? ⟨g, i, none⟩ = some (.int .u32 (.ofNat (ns.getD i 0))) := by
    intro i hi
    have := h.cell hg i (by rw [hz, List.length_map]; exact hi)
    rw [this, hz, List.getD_eq_getElem?_getD, List.getElem?_map, List.getD_eq_getElem?_getD, List.getElem?_eq_getElem hi]
    rfl
  have h0 := hc 0 hn
  unfold World.cell? at h0
  split at h0
  case h_2 => cases h0
  rename_i c t fr hw
  refine ⟨c, t, fr, hw, fun i v hv => ?_⟩
  rw [List.getElem?_map] at hv
  rcases Nat.lt_or_ge i ns.length with hi | hi
  · rw [List.getElem?_eq_getElem hi] at hv
    cases hv
    have h1 := hc i hi
    unfold World.cell? at h1
    rw [hw] at h1
    rw [List.getD_eq_getElem?_getD, List.getElem?_eq_getElem hi] at h1
    exact ⟨h1, rfl⟩
  · rw [List.getElem?_eq_none hi] at hv; cases hv
theorem gFirst : Tryz.prog.globalNamed "cairn/sha.first" = some 1 := by kernel_rfl
theorem gRoots : Tryz.prog.globalNamed "cairn/sha.roots" = some 2 := by kernel_rfl
theorem gRounds : Tryz.prog.globalNamed "cairn/cairnref02.rounds" = some 0 := by kernel_rfl
theorem tFirst : (Tryz.prog.globals[1]?).map (·.type) = some 137 := by kernel_rfl
theorem tRoots : (Tryz.prog.globals[2]?).map (·.type) = some 154 := by kernel_rfl
theorem tRounds : (Tryz.prog.globals[0]?).map (·.type) = some 154 := by kernel_rfl
theorem cells32 : Tryz.prog.cellsOf 106 = 1 := by kernel_rfl
theorem cells8 : Tryz.prog.cellsOf 137 = 8 := by kernel_rfl
theorem cells64 : Tryz.prog.cellsOf 154 = 64 := by kernel_rfl
def tabs : List (Nat × List Value) := [(1, HV), (2, KV), (0, KV)]
theorem tabs_met {W : World} {l : List (String × DataW Unit)} (h : laidMet Tryz.prog l W) (m1 : ("cairn/sha.first", Rows.laid_cairn_sha_first) ∈ l) (m2 : ("cairn/sha.roots", Rows.laid_cairn_sha_roots) ∈ l) (m3 : ("cairn/cairnref02.rounds", Rows.laid_cairn_cairnref02_rounds) ∈ l) :
    ∀ p ∈ tabs, p.1 < 1000 ∧ ∃ c t fr, W.heap[p.1]? = some (.cells c t fr) ∧ ∀ (i : Nat) (v : Value), p.2[i]? = some v → c[i]? = some v ∧ plain 1 v = true := by
  have t1 : Lib.TabIs Tryz.prog W "cairn/sha.first" .u32 HI := tab_of gFirst tFirst Tryz.underlying137 Tryz.underlying106 cells32 cells8 (Lib.laidMet.reads h m1)
  have t2 : Lib.TabIs Tryz.prog W "cairn/sha.roots" .u32 KI := tab_of gRoots tRoots Tryz.underlying154 Tryz.underlying106 cells32 cells64 (Lib.laidMet.reads h m2)
  have t3 : Lib.TabIs Tryz.prog W "cairn/cairnref02.rounds" .u32 KI := tab_of gRounds tRounds Tryz.underlying154 Tryz.underlying106 cells32 cells64 (Lib.laidMet.reads h m3)
  intro p hp
  rcases List.mem_cons.1 hp with rfl | hp
  · exact ⟨by decide, tab_heap (ns := HL) gFirst t1 (by kernel_rfl) (by decide)⟩
  rcases List.mem_cons.1 hp with rfl | hp
  · exact ⟨by decide, tab_heap (ns := KL) gRoots t2 (by kernel_rfl) (by decide)⟩
  rcases List.mem_cons.1 hp with rfl | hp
  · exact ⟨by decide, tab_heap (ns := KL) gRounds t3 (by kernel_rfl) (by decide)⟩
  cases hp
def setCells (c : Array Value) : Obj → Obj
  | .cells _ t frozen => .cells c t frozen
  | o => o
/-- A WORLD FOR THE WITNESS: the settled one, the tables holding what their initialisers lay. -/
def LaidIs (os : Os) (V : World) : Prop := V = { World.holding Tryz.prog os ⟨#[], #[], []⟩ with heap := ((((World.holding Tryz.prog os ⟨#[], #[], []⟩).heap.modify 1 (setCells ⟨HV⟩)).modify 2 (setCells ⟨KV⟩)).modify 0 (setCells ⟨KV⟩)) }
end Go.Proofs.YtdffoghdbfddmaaGreatDoor.Dg
