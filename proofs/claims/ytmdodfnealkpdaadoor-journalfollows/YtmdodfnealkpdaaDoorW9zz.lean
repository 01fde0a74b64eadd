import Derived.Test.YtmdodfnealkpdaaDoorW8zz
/-
  The evaluator over any input: from the machine's world to a state, and back.
-/
namespace Go.Sy
open Go Go.Ev Go.RowKit
/-- A cell as the evaluator sees it: addresses by a thousand further on. -/
def ab (H : Nat) (v : Value) : Value := match v with
  | .bool b => .bool b
  | .int k n => .int k n
  | .string t => .string t
  | .pointer none => .pointer none
  | .pointer (some ⟨b, o, none⟩) => if b < H then .pointer (some ⟨1000 + b, o, none⟩) else .chan (some 0)
  | .slice none n c => .slice none n c
  | .slice (some ⟨b, o, p⟩) n c => if n = 0 then .slice (some ⟨0, 0, some 0⟩) 0 0 else if b < H ∧ p = none then .slice (some ⟨1000 + b, o, none⟩) n (sure c) else .chan (some 0)
  | .nilFunc => .nilFunc
  | .nilIface => .nilIface
  | .map none => .map none
  | v => .chan (if one v = true then some 0 else none)
/-- An argument: a cell, or a struct's cells. -/
def abv (H : Nat) (v : Value) : Value := match v with
  | .agg cs => .agg ⟨cs.toList.map (ab H)⟩
  | v => ab H v
def En0 (H : Nat) : En := { nx := 1000 + H, ι := fun b => if b < 1000 then b else b - 1000, sh := fun _ => 0, sz := fun _ => 0 }
theorem ab_VR (H : Nat) (v : Value) : VR (En0 H) (ab H v) v := by
  have hι : ∀ b, (En0 H).ι (1000 + b) = b := fun b => by show (if 1000 + b < 1000 then 1000 + b else 1000 + b - 1000) = b; rw [if_neg (by omega)]; omega
  unfold ab
  split
  · exact .bool _
  · exact .int _ _
  · exact .str _
  · exact .pnil
  · rename_i b o
    split
    · rename_i h
      have := VR.ptr (E := En0 H) (1000 + b) o (by show 1000 + b < 1000 + H; omega)
      rw [hι, show (En0 H).sh (1000 + b) + o = o from Nat.zero_add o] at this; exact this
    · exact .top _ rfl
  · exact .snil _ _
  · rename_i b o p n c
    split
    · rename_i h
      subst h
      exact .slV _ 0 _ _
    · split
      · rename_i h
        obtain ⟨h, rfl⟩ := h
        have := VR.slS (E := En0 H) (1000 + b) o n c (by show 1000 + b < 1000 + H; omega)
        rw [hι, show (En0 H).sh (1000 + b) + o = o from Nat.zero_add o] at this; exact this
      · exact .top _ rfl
  · exact .fnil
  · exact .inil
  · exact .mnil
  · split
    · rename_i h; exact .top _ h
    · exact .any _
theorem abs_VRs (H : Nat) : ∀ l : List Value, VRs (En0 H) (l.map (ab H)) l
  | [] => .nil
  | v :: l => .cons _ _ _ _ (ab_VR H v) (abs_VRs H l)
theorem abv_VR (H : Nat) (v : Value) : VR (En0 H) (abv H v) v := by
  unfold abv
  split
  · rename_i cs; exact .agg _ _ (abs_VRs H cs.toList)
  · exact ab_VR H v
theorem abvs_VRs (H : Nat) : ∀ l : List Value, VRs (En0 H) (l.map (abv H)) l
  | [] => .nil
  | v :: l => .cons _ _ _ _ (abv_VR H v) (abvs_VRs H l)
def ob0 (w : World) (b : Nat) : Option Ob := match w.heap[b]? with
  | some (.cells c _ _) => some (.ro (c.toList.map (ab w.heap.size)))
  | _ => none
def put0 (w : World) (t : Tr Ob) (b : Nat) : Tr Ob := match ob0 w b with
  | some o => (if b < 1000 then t.set o b else t).set o (1000 + b)
  | none => t
def hp0 (w : World) : Nat → Tr Ob
  | 0 => .nil
  | n + 1 => put0 w (hp0 w n) n
theorem hp0_get (w : World) : ∀ n k, (hp0 w n).get k = if k < 1000 then (if k < n then ob0 w k else none) else (if k - 1000 < n then ob0 w (k - 1000) else none)
  | 0, k => by show (Tr.nil : Tr Ob).get k = _; rw [Tr.get_nil]; split <;> rfl
  | n + 1, k => by
    have ih := hp0_get w n
    show (put0 w (hp0 w n) n).get k = _
    unfold put0
    cases ho : ob0 w n with
    | none =>
      simp only [ih]
      by_cases h1 : k < 1000
      · rw [if_pos h1, if_pos h1]
        by_cases h2 : k = n
        · subst h2; rw [if_neg (Nat.lt_irrefl _), if_pos (Nat.lt_succ_self _), ho]
        · by_cases h3 : k < n
          · rw [if_pos h3, if_pos (by omega)]
          · rw [if_neg h3, if_neg (by omega)]
      · rw [if_neg h1, if_neg h1]
        by_cases h2 : k - 1000 = n
        · rw [if_neg (by omega), if_pos (by omega), h2, ho]
        · by_cases h3 : k - 1000 < n
          · rw [if_pos h3, if_pos (by omega)]
          · rw [if_neg h3, if_neg (by omega)]
    | some o =>
      simp only [get_set']
      by_cases h0 : k = 1000 + n
      · rw [if_pos h0, if_neg (by omega), if_pos (by omega), show k - 1000 = n by omega, ho]
      · rw [if_neg h0]
        by_cases h1 : k < 1000
        · rw [if_pos h1]
          by_cases h2 : k = n
          · subst h2; rw [if_pos h1, get_set', if_pos rfl, if_pos (Nat.lt_succ_self _), ho]
          · have e : (if n < 1000 then (hp0 w n).set o n else hp0 w n).get k = (hp0 w n).get k := by
              split
              · rw [get_set', if_neg h2]
              · rfl
            rw [e, ih, if_pos h1]
            by_cases h3 : k < n
            · rw [if_pos h3, if_pos (by omega)]
            · rw [if_neg h3, if_neg (by omega)]
        · rw [if_neg h1]
          have e : (if n < 1000 then (hp0 w n).set o n else hp0 w n).get k = (hp0 w n).get k := by
            split
            · rw [get_set', if_neg (by omega)]
            · rfl
          rw [e, ih, if_neg h1]
          by_cases h3 : k - 1000 < n
          · rw [if_pos h3, if_pos (by omega)]
          · rw [if_neg h3, if_neg (by omega)]
/-- A world as it is found: all that lies there is read alone. -/
def st0 (w : World) : St := .mk (hp0 w w.heap.size) (1000 + w.heap.size) .nil
theorem st0_get (w : World) (k : Nat) : (st0 w).hp.get k = if k < 1000 then ob0 w k else ob0 w (k - 1000) := by
  show (hp0 w w.heap.size).get k = _
  rw [hp0_get]
  have hn : ∀ b, ¬ b < w.heap.size → ob0 w b = none := fun b hb => by unfold ob0; rw [Array.getElem?_eq_none (by omega)]
  split
  · split
    · rfl
    · rename_i h; rw [hn _ h]
  · split
    · rfl
    · rename_i h; rw [hn _ h]
theorem ob0_some {w : World} {b : Nat} {o : Ob} (h : ob0 w b = some o) : ∃ c t fr, w.heap[b]? = some (.cells c t fr) ∧ o = .ro (c.toList.map (ab w.heap.size)) ∧ b < w.heap.size := by
  unfold ob0 at h
  split at h
  · rename_i c t fr hc; cases h; exact ⟨c, t, fr, hc, rfl, (Array.getElem?_eq_some_iff.1 hc).1⟩
  · cases h
theorem st0_some {w : World} {k : Nat} {o : Ob} (h : (st0 w).hp.get k = some o) : ∃ c t fr, w.heap[(En0 w.heap.size).ι k]? = some (.cells c t fr) ∧ o = .ro (c.toList.map (ab w.heap.size)) ∧ (En0 w.heap.size).ι k < w.heap.size ∧ k < 1000 + w.heap.size := by
  rw [st0_get] at h
  show ∃ c t fr, w.heap[if k < 1000 then k else k - 1000]? = _ ∧ _ ∧ (if k < 1000 then k else k - 1000) < _ ∧ _
  split at h
  · rename_i hk; rw [if_pos hk]; obtain ⟨c, t, fr, h1, h2, h3⟩ := ob0_some h; exact ⟨c, t, fr, h1, h2, h3, by omega⟩
  · rename_i hk; rw [if_neg hk]; obtain ⟨c, t, fr, h1, h2, h3⟩ := ob0_some h; exact ⟨c, t, fr, h1, h2, h3, by omega⟩
theorem rel0 (w : World) : Rel w.heap.size (En0 w.heap.size) (st0 w) w := by
  refine ⟨rfl, by show 1000 ≤ 1000 + w.heap.size; omega, Nat.le_succ _, fun b hb => ⟨if_pos hb, rfl⟩, Nat.le_refl _, fun b o hb => ?_, fun b o hb ho => ?_, fun b o b' o' hb _ ho => ?_, fun b o hb hg => ?_, fun b o hb _ _ => ?_⟩
  · obtain ⟨c, t, fr, h1, rfl, _, h3⟩ := st0_some hb
    refine ⟨h3, c, t, fr, h1, fun i v hv => ?_⟩
    rw [List.getElem?_map, Array.getElem?_toList] at hv
    cases hc : c[i]? with
    | none => rw [hc] at hv; cases hv
    | some u => rw [hc] at hv; cases hv; exact ⟨u, by show c[0 + i]? = _; rw [Nat.zero_add]; exact hc, ab_VR _ u⟩
  · obtain ⟨c, t, fr, h1, rfl, _⟩ := st0_some hb; exact ho.elim
  · obtain ⟨c, t, fr, h1, rfl, _⟩ := st0_some hb; exact ho.elim
  · obtain ⟨c, t, fr, h1, rfl, _⟩ := st0_some hb; exact absurd rfl hg
  · obtain ⟨c, t, fr, h1, rfl, h2, _⟩ := st0_some hb; exact h2
theorem wf0 (w : World) : Wf (st0 w) := by
  have hg : ∀ g, (st0 w).gr.get g = none := fun g => Tr.get_nil
  refine ⟨fun b o hb => ?_, fun g ms m o h => ?_, fun b cs hb => hg b, fun b cs g hb => ?_, fun b cs g hb => ?_, fun g ms h => ?_, fun g ms m h => ?_, by show 0 < 1000 + w.heap.size; omega⟩
  · obtain ⟨c, t, fr, _, rfl, _, h⟩ := st0_some hb; exact ⟨h, h⟩
  · rw [hg] at h; cases h
  · obtain ⟨c, t, fr, _, h, _⟩ := st0_some hb; cases h
  · obtain ⟨c, t, fr, _, h, _⟩ := st0_some hb; cases h
  · rw [hg] at h; cases h
  · rw [hg] at h; cases h
/-- What a law comes to over the state as it is found, the machine comes to. -/
theorem calls0 {B : Bx} (hm : B.P.follows .mixedOrders = true) {f : FuncId} {args : List Value} {w : World} (hH : HookOk w.heap.size B.P B.hook) (h : Cl B (.call f (args.map (abv w.heap.size))) (st0 w) fun v _ => v = .bool true) :
    Calls B.P f ⟨args⟩ w fun e w' => e = .returned (.bool true) ∧ Below w.heap.size w w' := by
  obtain ⟨v, s', ⟨n, hr⟩, rfl⟩ := h
  refine (eval_calls (fun rec R => draw_ok hm R) hH (rel0 w) (abvs_VRs _ args) (hr n (Nat.le_refl _))).mono fun e W' ⟨E', v', h1, h2, h3⟩ => ?_
  rw [h2.bool_inv] at h1
  exact ⟨h1, h3.below (rel0 w)⟩
theorem hook0 {N : Nat} {P : Program} : HookOk N P fun _ => none := fun e => by cases e
/-- Cells that lie in the world. -/
theorem at0 {w : World} {b o : Nat} {c : Array Value} {t : TypeId} {fr : Nat × Nat} {cs : List Value} (h : w.heap[b]? = some (.cells c t fr)) (hc : ∀ i, i < cs.length → ∃ v, c[o + i]? = some v ∧ cs[i]? = some (ab w.heap.size v)) (hz : cs ≠ []) : At (st0 w) (some ⟨1000 + b, o, none⟩) cs := by
  have hg : (st0 w).hp.get (1000 + b) = some (.ro (c.toList.map (ab w.heap.size))) := by
    rw [st0_get, if_neg (by omega), show 1000 + b - 1000 = b by omega]; unfold ob0; rw [h]
  refine .inr ⟨_, _, rfl, ?_⟩
  have hcl : c.toList.length = c.size := Array.length_toList
  have hl : o + cs.length ≤ c.size := by
    have hp : 0 < cs.length := List.length_pos_iff.2 hz
    obtain ⟨v, h1, _⟩ := hc (cs.length - 1) (by omega)
    have := (Array.getElem?_eq_some_iff.1 h1).1; omega
  rw [readAt_of (.inl hg) (by rw [List.length_drop, List.length_map]; omega)]
  refine congrArg some (List.ext_getElem? fun i => ?_)
  by_cases hi : i < cs.length
  · obtain ⟨v, h1, h2⟩ := hc i hi
    rw [List.getElem?_take_of_lt hi, List.getElem?_drop, List.getElem?_map, Array.getElem?_toList, h1, h2]; rfl
  · rw [List.getElem?_eq_none (by rw [List.length_take, List.length_drop, List.length_map]; omega), List.getElem?_eq_none (by omega)]
end Go.Sy
