import Derived.Test.YtdibpdpcbnijeaaGreatDoorLlzz
import Derived.Test.YtdibpdpcbnijeaaGreatDoorRows
import Derived.SizedLaws
import Derived.OpenShut
import Derived.Laws.BytesArg
import Derived.Deep.Slices
import Derived.Deep.Strs
/-
  Arguments opened: entries, changes.
-/
namespace Go.Proofs.YtdibpdpcbnijeaaGreatDoor
open Go Go.Ev Go.Sy Go.ChangeShapes Go.WideShapes Go.ChangeAt Go.RowKit
set_option maxRecDepth 100000
theorem laidOut : laidOutB Tryz.prog = true := by kernel_rfl
theorem cells5 : Tryz.prog.cellsOf 5 = 1 := by kernel_rfl
theorem cellsB : Tryz.prog.cellsOf 27 = 1 := by kernel_rfl
theorem cells4 : Tryz.prog.cellsOf 4 = 1 := by kernel_rfl
theorem cellsE : Tryz.prog.cellsOf 29 = 2 := by kernel_rfl
theorem cellsC : Tryz.prog.cellsOf 32 = 3 := by kernel_rfl
theorem underE : ∃ f0 f1 : Field, Tryz.prog.underlying 29 = some (.struct #[f0, f1]) ∧ (f0.type = 27 ∧ f0.offset = 0) ∧ (f1.type = 27 ∧ f1.offset = 1) :=
  ⟨_, _, Tryz.underlying29, ⟨rfl, rfl⟩, rfl, rfl⟩
theorem underC : ∃ f0 f1 f2 : Field, Tryz.prog.underlying 32 = some (.struct #[f0, f1, f2]) ∧ (f0.type = 27 ∧ f0.offset = 0) ∧ (f1.type = 27 ∧ f1.offset = 1) ∧ (f2.type = 4 ∧ f2.offset = 2) :=
  ⟨_, _, _, Tryz.underlying32, ⟨rfl, rfl⟩, ⟨rfl, rfl⟩, rfl, rfl⟩
theorem bulk_pos {H : Type} (d : DataW H) : 1 ≤ Rows.uptoBulk d := by
  cases d with
  | lit l => cases l <;> simp [Rows.uptoBulk]
  | _ => simp [Rows.uptoBulk]
theorem bulk_len {H : Type} : ∀ l : List (DataW H), l.length ≤ Rows.uptoBulkAll l
  | [] => by simp [Rows.uptoBulkAll]
  | d :: r => by
    have h1 := bulk_pos d
    have h2 := bulk_len r
    simp only [Rows.uptoBulkAll, List.length_cons]
    omega
theorem bulk_mem {H : Type} : ∀ {l : List (DataW H)} {d : DataW H}, d ∈ l → Rows.uptoBulk d ≤ Rows.uptoBulkAll l
  | x :: l, d, h => by
    simp only [Rows.uptoBulkAll]
    rcases List.mem_cons.1 h with rfl | h
    · omega
    · have := bulk_mem h; omega
theorem ab_void {n : Nat} {a : Addr} {c : Nat} : ab n (.slice (some a) 0 c) = .slice (some ⟨0, 0, some 0⟩) 0 0 := by
  obtain ⟨b, o, p⟩ := a
  simp only [ab, if_true]
theorem ab_sl {H b o n c : Nat} (hn : 0 < n) (hb : b < H) : ab H (.slice (some ⟨b, o, none⟩) n c) = .slice (some ⟨1000 + b, o, none⟩) n (sure c) := by
  show (if n = 0 then _ else if b < H ∧ none = none then _ else _) = _
  rw [if_neg (by omega), if_pos ⟨hb, rfl⟩]
/-- Cells of the world, as the evaluator finds them. -/
theorem at_world {W : World} {b o : Nat} {cs : List Value} (h : ∀ i, i < cs.length → ∃ v, W.cell? ⟨b, o + i, none⟩ = some v ∧ cs[i]? = some (ab W.heap.size v)) (hz : cs ≠ []) : At (st0 W) (some ⟨1000 + b, o, none⟩) cs ∧ b < W.heap.size := by
  have hp : 0 < cs.length := List.length_pos_iff.2 hz
  obtain ⟨v0, h0, _⟩ := h 0 hp
  have hb := World.block_lt_of_cell? _ _ h0
  unfold World.cell? at h0
  split at h0
  case h_2 => cases h0
  rename_i c t fr hw
  refine ⟨at0 (c := c) (t := t) (fr := fr) hw (fun i hi => ?_) hz, hb⟩
  obtain ⟨v, h1, h2⟩ := h i hi
  unfold World.cell? at h1
  simp only at hw h1
  rw [hw] at h1
  exact ⟨v, h1, h2⟩
/-- Bytes. -/
theorem open_by {H : Type} {enc : TypeId × Value → H} {W : World} {fuel : Nat} {v : Value} {d : DataW H} {p : List MemPlace}
    (hf : DataW.trod enc Tryz.prog W 0 (fun _ => true) true fuel 27 [v] = some (d, p)) (hk : Rows.uptoBulk d ≤ 1048576) : ∃ A : List Nat, BsV (st0 W) (ab W.heap.size v) A ∧ (∀ x ∈ A, x < 256) ∧ A.length ≤ 1048576 := by
  rcases open_ints Tryz.underlying27 Tryz.underlying5 cells5 hf with ⟨hcs, hx⟩ | ⟨a, len, cap, zs, hcs, _, hl, hm, hz, hx, hcell, hwz⟩
  · simp only [List.cons.injEq, and_true] at hcs
    subst hcs
    exact ⟨[], ⟨none, 0, rfl, .inl ⟨rfl, .inl rfl⟩, by decide⟩, by simp, by simp⟩
  · simp only [List.cons.injEq, and_true] at hcs
    subst hcs
    simp only [Prod.mk.injEq] at hx
    simp only [if_true] at hz
    have hlen : len ≤ 1048576 := by
      rw [hx.1] at hk
      have a1 := bulk_len (H := H) (lits .u8 (zs.take len))
      have e : (lits (H := H) .u8 (zs.take len)).length = len := by simp [lits]; omega
      simp only [Rows.uptoBulk] at hk
      omega
    by_cases h0 : 0 < len
    · obtain ⟨b, off, rfl, hc⟩ := ints_at hcell (by omega)
      have bd : ∀ j, 0 ≤ zs.getD j 0 ∧ zs.getD j 0 ≤ 255 := fun j => by
        have := range_u8 hwz j
        simpa [List.getD] using this
      obtain ⟨A, hA⟩ : ∃ A : List Nat, A = (List.range len).map fun i => (zs.getD i 0).toNat := ⟨_, rfl⟩
      have hAl : A.length = len := by rw [hA]; simp
      obtain ⟨a1, a2⟩ := at_world (W := W) (b := b) (o := off) (cs := A.map nB) (fun i hi => by
        rw [List.length_map, hAl] at hi
        refine ⟨_, hc i (by omega), ?_⟩
        rw [hA, List.getElem?_map, List.getElem?_map, List.getElem?_range hi]
        show some (nB (zs.getD i 0).toNat) = some (Value.int .u8 (zs.getD i 0))
        have := bd i
        have e : ((zs.getD i 0).toNat : Int) = zs.getD i 0 := by omega
        rw [← e]; rfl) (fun e => by have := congrArg List.length e; rw [List.length_map, hAl] at this; simp at this; omega)
      refine ⟨A, ⟨some ⟨1000 + b, off, none⟩, sure cap, by rw [ab_sl h0 a2, hAl], a1, by omega⟩, fun x hx => ?_, by omega⟩
      rw [hA] at hx
      obtain ⟨i, _, rfl⟩ := List.mem_map.1 hx
      have := bd i
      omega
    · have e0 : len = 0 := by omega
      subst e0
      exact ⟨[], ⟨some ⟨0, 0, some 0⟩, 0, ab_void, .inl ⟨rfl, .inr ⟨0, 0, 0, rfl⟩⟩, by decide⟩, by simp, by simp⟩
theorem one_len {cs : List Value} (h : cs.length = 1) : ∃ v, cs = [v] := by
  match cs, h with
  | [v], _ => exact ⟨v, rfl⟩
theorem sub_one {cs : List Value} {i : Nat} (h : i < cs.length) : (cs.drop i).take 1 = [cs[i]] := by rw [List.drop_eq_getElem_cons h]; rfl
/-- One entry. -/
theorem open_ent {H : Type} {enc : TypeId × Value → H} {W : World} {fuel : Nat} {cs : List Value} {d : DataW H} {p : List MemPlace}
    (hf : DataW.trod enc Tryz.prog W 0 (fun _ => true) true fuel 29 cs = some (d, p)) (hk : Rows.uptoBulk d ≤ 1048576) :
    ∃ x : El, cs.map (ab W.heap.size) = [x.1.1, x.1.2] ∧ BsV (st0 W) x.1.1 x.2.1 ∧ BsV (st0 W) x.1.2 x.2.2 ∧ (∀ y ∈ x.2.1, y < 256) ∧ x.2.1.length ≤ 1048576 ∧ x.2.2.length ≤ 1048576 := by
  obtain ⟨f0, f1, hu, ⟨t0, o0⟩, t1, o1⟩ := underE
  obtain ⟨y0, y1, n1, hx, hl, g0, g1⟩ := trod_struct2 hu hf
  rw [cellsE] at hl
  rw [t0, o0, cellsB, sub_one (by omega)] at g0
  rw [t1, o1, cellsB, sub_one (by omega)] at g1
  simp only [Prod.mk.injEq] at hx
  rw [hx.1] at hk
  simp only [Rows.uptoBulk, Rows.uptoBulkAll] at hk
  obtain ⟨A, a1, a2, a3⟩ := open_by g0 (by omega)
  obtain ⟨D, b1, b2, b3⟩ := open_by g1 (by omega)
  refine ⟨((ab W.heap.size cs[0], ab W.heap.size cs[1]), (A, D)), ?_, a1, b1, a2, a3, b3⟩
  match cs, hl with
  | [u, v], _ => rfl
theorem open_chg {H : Type} {enc : TypeId × Value → H} {W : World} {fuel : Nat} {cs : List Value} {d : DataW H} {p : List MemPlace}
    (hf : DataW.trod enc Tryz.prog W 0 (fun _ => true) true fuel 32 cs = some (d, p)) (hk : Rows.uptoBulk d ≤ 1048576) :
    ∃ x : El × Bool, cs.map (ab W.heap.size) = [x.1.1.1, x.1.1.2, .bool x.2] ∧ BsV (st0 W) x.1.1.1 x.1.2.1 ∧ BsV (st0 W) x.1.1.2 x.1.2.2 ∧ x.1.2.1.length ≤ 1048576 ∧ x.1.2.2.length ≤ 1048576 := by
  obtain ⟨f0, f1, f2, hu, ⟨t0, o0⟩, ⟨t1, o1⟩, t2, o2⟩ := underC
  obtain ⟨y0, y1, y2, n1, hx, hl, g0, g1, g2⟩ := Deep.trod_struct3 hu hf
  rw [cellsC] at hl
  rw [t0, o0, cellsB, sub_one (by omega)] at g0
  rw [t1, o1, cellsB, sub_one (by omega)] at g1
  rw [t2, o2, cells4, sub_one (by omega)] at g2
  simp only [Prod.mk.injEq] at hx
  rw [hx.1] at hk
  simp only [Rows.uptoBulk, Rows.uptoBulkAll] at hk
  obtain ⟨A, a1, a2, a3⟩ := open_by g0 (by omega)
  obtain ⟨D, b1, b2, b3⟩ := open_by g1 (by omega)
  obtain ⟨g, e2, _⟩ := DataW.trod_bool Tryz.underlying4 g2
  refine ⟨(((ab W.heap.size cs[0], ab W.heap.size cs[1]), (A, D)), g), ?_, a1, b1, a3, b3⟩
  match cs, hl with
  | [u, v, z], _ =>
    have e : z = .bool g := by injection e2
    subst e; rfl
/-- A list of structs. -/
theorem open_rows {H : Type} {enc : TypeId × Value → H} {W : World} {fuel : Nat} {v : Value} {d : DataW H} {p : List MemPlace} {α : Type} {t e : TypeId} {k : Nat} (hk0 : 0 < k) (ht : Tryz.prog.underlying t = some (.slice e)) (hc : Tryz.prog.cellsOf e = k) (cl : α → List Value) (hcl : ∀ x, (cl x).length = k) (R : α → Prop)
    (each : ∀ {n : Nat} {cs : List Value} {d : DataW H} {p : List MemPlace}, DataW.trod enc Tryz.prog W 0 (fun _ => true) true n e cs = some (d, p) → Rows.uptoBulk d ≤ 1048576 → ∃ x : α, cs.map (ab W.heap.size) = cl x ∧ R x)
    (hf : DataW.trod enc Tryz.prog W 0 (fun _ => true) true fuel t [v] = some (d, p)) (hk : Rows.uptoBulk d ≤ 1048576) :
    ∃ (q : Option Addr) (c : Nat) (l : List α), ab W.heap.size v = .slice q l.length c ∧ At (st0 W) q (l.flatMap cl) ∧ (∀ x ∈ l, R x) ∧ l.length ≤ 1048576 := by
  rcases Deep.open_slice ht hf with ⟨hcs, hx⟩ | ⟨a, len, cap, m, n, D, Pl, hcs, _, hl, hm, hmm, hx, hr⟩
  · simp only [List.cons.injEq, and_true] at hcs
    subst hcs
    exact ⟨none, 0, [], rfl, .inl ⟨rfl, .inl rfl⟩, by simp, by simp⟩
  · simp only [List.cons.injEq, and_true] at hcs
    subst hcs
    simp only [if_true] at hmm
    subst hmm
    simp only [Prod.mk.injEq] at hx
    rw [hx.1] at hk
    simp only [Rows.uptoBulk] at hk
    have hlen : len ≤ 1048576 := by
      have := bulk_len ((List.range len).map D)
      simp only [List.length_map, List.length_range] at this
      omega
    by_cases h0 : 0 < len
    · have ea : ∀ i, i < len → ∃ x : α, (∀ j, j < k → ∃ u, W.cell? (a.add (i * k + j)) = some u ∧ (cl x)[j]? = some (ab W.heap.size u)) ∧ R x := fun i hi => by
        obtain ⟨cs', h1, h2⟩ := hr i (by omega)
        rw [hc] at h1
        obtain ⟨_, hlen', hcell⟩ := World.cells?_some h1
        obtain ⟨x, e1, e2⟩ := each h2 (by
          have := bulk_mem (l := (List.range len).map D) (d := D i) (List.mem_map.2 ⟨i, List.mem_range.2 hi, rfl⟩)
          omega)
        refine ⟨x, fun j hj => ?_, e2⟩
        have c := hcell j hj
        rw [Deep.add_add] at c
        refine ⟨cs'[j], by rw [c, List.getElem?_eq_getElem (by omega)], ?_⟩
        rw [← e1, List.getElem?_map, List.getElem?_eq_getElem (by omega)]; rfl
      obtain ⟨x0, hx0, _⟩ := ea 0 h0
      obtain ⟨u0, hu0, _⟩ := hx0 0 hk0
      haveI : Inhabited α := ⟨x0⟩
      obtain ⟨f, hf'⟩ := Deep.choose_lt ea
      have hspot : a = ⟨a.block, a.off, none⟩ := by
        obtain ⟨b, o, sp⟩ := a
        have : sp = none := by simpa [Addr.add] using World.cell?_spot hu0
        rw [this]
      obtain ⟨b, o, rfl⟩ : ∃ b o, a = ⟨b, o, none⟩ := ⟨_, _, hspot⟩
      obtain ⟨L, hL⟩ : ∃ L, L = (List.range len).map f := ⟨_, rfl⟩
      have hLl : L.length = len := by rw [hL]; simp
      have fl : ∀ (L : List α) (j : Nat), j < L.length * k → ∃ x, L[j / k]? = some x ∧ (L.flatMap cl)[j]? = (cl x)[j % k]? := fun L => by
        induction L with
        | nil => intro j hj; simp at hj
        | cons x L ih =>
          intro j hj
          by_cases hjk : j < k
          · refine ⟨x, by rw [Nat.div_eq_of_lt hjk]; rfl, ?_⟩
            rw [List.flatMap_cons, List.getElem?_append_left (by rw [hcl]; exact hjk), Nat.mod_eq_of_lt hjk]
          · obtain ⟨y, h1, h2⟩ := ih (j - k) (by rw [List.length_cons, Nat.succ_mul] at hj; omega)
            have hd : j / k = (j - k) / k + 1 := by rw [← Nat.add_div_right _ hk0]; congr 1; omega
            have hmod : j % k = (j - k) % k := (Nat.mod_eq_sub_mod (by omega))
            refine ⟨y, by rw [hd]; exact h1, ?_⟩
            rw [List.flatMap_cons, List.getElem?_append_right (by rw [hcl]; omega), hcl, h2, hmod]
      have hfl : (L.flatMap cl).length = len * k := by
        have : ∀ L : List α, (L.flatMap cl).length = L.length * k := fun L => by
          induction L with
          | nil => simp
          | cons x L ih => rw [List.flatMap_cons, List.length_append, ih, hcl, List.length_cons, Nat.succ_mul]; omega
        rw [this, hLl]
      obtain ⟨a1, a2⟩ := at_world (W := W) (b := b) (o := o) (cs := L.flatMap cl) (fun j hj => by
        rw [hfl] at hj
        obtain ⟨x, h1, h2⟩ := fl L j (by rw [hLl]; exact hj)
        have hjd : j / k < len := (Nat.div_lt_iff_lt_mul hk0).2 hj
        rw [hL, List.getElem?_map, List.getElem?_range hjd] at h1
        injection h1 with h1
        subst h1
        obtain ⟨u, h3, h4⟩ := (hf' (j / k) hjd).1 (j % k) (Nat.mod_lt _ hk0)
        refine ⟨u, ?_, by rw [h2]; exact h4⟩
        rw [Go.WideShapes.add_plain] at h3
        rw [show j / k * k + j % k = j from Nat.div_add_mod' j k] at h3
        exact h3) (fun e => by
          have := congrArg List.length e
          rw [hfl] at this
          have hpos := Nat.mul_pos h0 hk0
          simp at this; omega)
      refine ⟨some ⟨1000 + b, o, none⟩, sure m, L, by rw [ab_sl h0 a2, hLl], a1, fun x hx => ?_, by omega⟩
      rw [hL] at hx
      obtain ⟨i, hi, rfl⟩ := List.mem_map.1 hx
      exact (hf' i (List.mem_range.1 hi)).2
    · have e0 : len = 0 := by omega
      subst e0
      exact ⟨some ⟨0, 0, some 0⟩, 0, [], ab_void, .inl ⟨rfl, .inr ⟨0, 0, 0, rfl⟩⟩, by simp, by simp⟩
end Go.Proofs.YtdibpdpcbnijeaaGreatDoor
/-
  ShapeSorts: the row (the second form) and the card.
-/
namespace Go.Proofs.YtdibpdpcbnijeaaGreatDoor
open Go Go.Ev Go.Sy Go.ChangeShapes Go.WideShapes Go.ChangeAt Go.RowKit
set_option maxRecDepth 100000
def isI (v : Value) : Bool := match v with
  | .int _ _ => true
  | _ => false
theorem tab0 {W : World} (ht : ∀ p ∈ Dg.tabs, p.1 < 1000 ∧ ∃ c t fr, W.heap[p.1]? = some (.cells c t fr) ∧ ∀ (i : Nat) (v : Value), p.2[i]? = some v → c[i]? = some v ∧ plain 1 v = true) : TabAt (st0 W) := fun p hp => by
  obtain ⟨h1, c, t, fr, h2, h3⟩ := ht p hp
  have hi : ∀ v ∈ p.2, isI v = true := fun v hv => List.all_eq_true.1 (List.all_eq_true.1 (show (Dg.tabs.all fun p => p.2.all isI) = true by kernel_rfl) p hp) v hv
  have hg : (st0 W).hp.get p.1 = some (.ro (c.toList.map (ab W.heap.size))) := by
    rw [st0_get, if_pos h1]; unfold ob0; rw [h2]
  refine .inr ⟨_, _, rfl, ?_⟩
  have hcl : c.toList.length = c.size := Array.length_toList
  have hl : p.2.length ≤ c.size := by
    rcases Nat.eq_zero_or_pos p.2.length with e | e
    · omega
    · have := (h3 (p.2.length - 1) (p.2[p.2.length - 1]'(by omega)) (List.getElem?_eq_getElem (by omega))).1
      have := (Array.getElem?_eq_some_iff.1 this).1; omega
  rw [readAt_of (.inl hg) (by rw [List.length_drop, List.length_map]; omega)]
  refine congrArg some (List.ext_getElem? fun i => ?_)
  by_cases hi' : i < p.2.length
  · have hv := List.getElem?_eq_getElem hi'
    obtain ⟨h4, _⟩ := h3 i _ hv
    have h5 := hi _ (List.getElem_mem hi')
    rw [List.getElem?_take_of_lt hi', List.getElem?_drop, List.getElem?_map, Array.getElem?_toList, Nat.zero_add, h4, hv]
    generalize p.2[i] = v at h5
    cases v <;> first | rfl | cases h5
  · rw [List.getElem?_eq_none (by rw [List.length_take, List.length_drop, List.length_map]; omega), List.getElem?_eq_none (by omega)]
namespace shapeSorts
theorem contract (H : Type) (enc : TypeId × Value → H) (W : World) (base : Nat) (args : Array Value) (ds gs : List (DataW H)) (before : List MemPlace)
    (hval : ∀ (j : Nat) t v, Tryz.f3.params[j]? = some t → args[j]? = some v → Value.okWide Tryz.prog W .any base t v)
    (hW : DataW.Whole enc Tryz.prog Tryz.f3.params.toList Rows.shapeSortsSpec.vars false W args.toList ds gs before)
    (hk : Rows.uptoSmall H (ds ++ gs) = true)
    (hL : laidMetH Tryz.prog Rows.shapeSortsUptoRow.laid W) :
    Calls Tryz.prog 3 args W fun e W' => ∃ v, e = .returned v ∧ Rows.shapeSortsSpec.post enc Tryz.prog Tryz.f3 false true false false W args v W' := by
  have hW' := hW
  obtain ⟨p, q, hA0, hV, rfl, hfz, hnd⟩ := hW
  have hA : DataW.TrodAll enc Tryz.prog W 0 (fun _ => true) true Tryz.f3.params.toList args.toList ds p := hA0
  rw [Tryz.params3] at hA hval
  obtain ⟨v0, v1, d0, d1, p0, p1, hargs, rfl, rfl, h0, h1⟩ := trodAll_two hA
  obtain rfl : args = #[v0, v1] := by cases args; simp_all
  obtain ⟨rfl, rfl⟩ := trodVars_none hV
  obtain ⟨a0, la, ca, rfl⟩ := okWide_slice Tryz.underlying22 (hval 0 22 v0 rfl rfl)
  obtain ⟨b0, lb, cb, rfl⟩ := okWide_slice Tryz.underlying23 (hval 1 23 v1 rfl rfl)
  have h0k := h0
  have h1k := h1
  obtain ⟨fa, hfa⟩ := h0
  obtain ⟨fb, hfb⟩ := h1
  clear hA0
  simp only [List.append_nil] at hW' hk
  have hlt : ∀ x ∈ p0 ++ p1, x.block < W.heap.size := fun x hx => by simpa using hW'.lt x (by simpa using hx)
  have hk2 : Rows.uptoBulk d0 ≤ 1048576 ∧ Rows.uptoBulk d1 ≤ 1048576 := by
    have h : Rows.uptoBulkAll [d0, d1] ≤ 1048576 := of_decide_eq_true hk
    simp only [Rows.uptoBulkAll] at h
    omega
  obtain ⟨qe, ce, l, e1, e2, e3, e4⟩ := open_rows (α := El) (k := 2) (by decide) Tryz.underlying22 cellsE (fun x => [x.1.1, x.1.2]) (fun _ => rfl)
    (fun x => BsV (st0 W) x.1.1 x.2.1 ∧ BsV (st0 W) x.1.2 x.2.2 ∧ (∀ y ∈ x.2.1, y < 256) ∧ x.2.1.length ≤ 1048576 ∧ x.2.2.length ≤ 1048576) (fun hf hk => open_ent hf hk) (by simpa [Value.cells] using hfa) hk2.1
  obtain ⟨qc, cc, C, g1, g2, g3, g4⟩ := open_rows (α := El × Bool) (k := 3) (by decide) Tryz.underlying23 cellsC (fun x => [x.1.1.1, x.1.1.2, .bool x.2]) (fun _ => rfl)
    (fun x => BsV (st0 W) x.1.1.1 x.1.2.1 ∧ BsV (st0 W) x.1.1.2 x.1.2.2 ∧ x.1.2.1.length ≤ 1048576 ∧ x.1.2.2.length ≤ 1048576) (fun hf hk => open_chg hf hk) (by simpa [Value.cells] using hfb) hk2.2
  have hT : TabAt (st0 W) := tab0 (Dg.tabs_met (l := Rows.shapeSortsUptoRow.laid) hL (.head _) (.tail _ (.head _)))
  have hmap : ∀ e ∈ l.map Prod.snd, ∃ x ∈ l, e = x.2 := fun e he => by obtain ⟨x, hx, rfl⟩ := List.mem_map.1 he; exact ⟨x, hx, rfl⟩
  have law := law_ok (c := ce) (d := cc) (l := l) (C := C) rfl rfl (wf0 W) hT e2 (fun x hx => ⟨(e3 x hx).1, (e3 x hx).2.1⟩) g2 (fun x hx => ⟨(g3 x hx).1, (g3 x hx).2.1⟩) (by omega) (by omega)
    (fun e he => by obtain ⟨x, hx, rfl⟩ := hmap e he; have := e3 x hx; omega) (fun x hx => by have := g3 x hx; omega) (fun e he => by obtain ⟨x, hx, rfl⟩ := hmap e he; exact (e3 x hx).2.2.1)
  have call := calls0 (B := B) (args := [.slice a0 la ca, .slice b0 lb cb]) (w := W) Dg.mixed fixK_ok (by
    show Cl B (.call 3 [ab W.heap.size (.slice a0 la ca), ab W.heap.size (.slice b0 lb cb)]) (st0 W) _
    rw [e1, g1]; exact law)
  refine Calls.mono call fun e W' ⟨he, hg⟩ => ?_
  subst he
  exact ⟨_, rfl, _, _, _, [], _, [], hW', trodAll_cons_mk (shut_bool Tryz.underlying4 _) trodAll_mk0,
    trodAll_mk2 (Below.trod laidOut (by kernel_rfl) (of_decide_eq_true (by kernel_rfl)) h0k hg fun x hx => hlt x (by simp [hx])) (Below.trod laidOut (by kernel_rfl) (of_decide_eq_true (by kernel_rfl)) h1k hg fun x hx => hlt x (by simp [hx])), rfl, hg.frame _, fun h => by cases h⟩
theorem laid_met (os : Os) {V : World} (h : Dg.LaidIs os V) : laidMet Tryz.prog Rows.shapeSortsUptoRow.laid (V.forCall (fun _ _ => 0) ⟨#[], #[.slice none 0 0, .slice none 0 0], []⟩).memory := by
  subst h
  exact laidMet_of_run' 8 (by kernel_rfl) (by kernel_rfl)
theorem reads (os : Os) {V : World} (h : Dg.LaidIs os V) {H : Type} (enc : TypeId × Value → H) : ∃ places, DataW.whole enc Tryz.prog (V.forCall (fun _ _ => 0) ⟨#[], #[.slice none 0 0, .slice none 0 0], []⟩).memory Tryz.f3.params.toList Rows.shapeSortsSpec.vars false (#[.slice none 0 0, .slice none 0 0] : Array Value).toList 8 = some ([.nil, .nil], [], places) := by
  subst h
  exact ⟨[], by kernel_rfl⟩
theorem lifted (os : Os) (started : os.Started) (H : Type) (enc : TypeId × Value → H) (F : Stop.Interp) :
    ReturnsInHanded {} Tryz.checked os 3 .any ((Rows.OpenSpec.upto Rows.shapeSortsSpec).preRow enc Tryz.prog Tryz.f3 Rows.shapeSortsUptoRow.domain false Rows.shapeSortsUptoRow.laid) (((Rows.OpenSpec.upto Rows.shapeSortsSpec).at F).post enc Tryz.prog Tryz.f3 false true false false) := by
  obtain ⟨places, hx⟩ := reads os rfl enc
  refine returnsInHanded_of_row (C := Tryz.checked) (s := Rows.OpenSpec.upto Rows.shapeSortsSpec) Dg.own started (by kernel_rfl) Tryz.func3
    (witness_row_at (enc := enc) (C := Tryz.checked) false _ #[.slice none 0 0, .slice none 0 0] rfl (by kernel_rfl) (by kernel_rfl) (by kernel_rfl)
      (OpenSpec.preRow_of_cond 8 hx (by kernel_rfl) (fun k hk => by cases hk; kernel_rfl) (by kernel_rfl) (laid_met os rfl))) ?_
  intro W base args ds gs before hval hW _ hcond _ hL _ _
  exact contract H enc W base args ds gs before hval hW (hcond _ rfl) hL
theorem f1 : Tryz.pinned.checked.prog.inPlace 3 = Rows.shapeSortsUptoRow.inPlace := by kernel_rfl
theorem f2 : Tryz.pinned.checked.prog.unfollowed 3 = Rows.shapeSortsUptoRow.unfollowed := by kernel_rfl
theorem f3 : Tryz.pinned.checked.prog.recurses 3 = Rows.shapeSortsUptoRow.recurses := by kernel_rfl
theorem f4 : Tryz.pinned.checked.prog.varsNamed 3 = Rows.shapeSortsUptoRow.named := by kernel_rfl
theorem facts : joinedFacts Tryz.pinned.checked.prog 3 Tryz.f3 (Rows.OpenSpec.upto Rows.shapeSortsSpec).bare Rows.shapeSortsUptoRow = true := by
  unfold joinedFacts
  rw [f1, f2, f3, f4]
  kernel_rfl
theorem said : Rows.ShapeSortsUptoSaid :=
  OpenClaim.holds_of_cond 3 Tryz.f3 rfl rfl rfl rfl rfl rfl rfl ⟨rfl, rfl, rfl, rfl, rfl⟩ rfl rfl rfl rfl rfl (by kernel_rfl) Tryz.func3 facts
    (of_decide_eq_true (by kernel_rfl)) (by unfold Func.isWrapper; first | (rw [if_pos (by decide +kernel)]; kernel_rfl) | (rw [if_neg (by decide +kernel)]; exact ⟨rfl, rfl⟩))
    (fun os started H enc _ F => by rw [OpenClaim.pre_eq_preRow]; exact lifted os started H enc F)
theorem plain (f : FuncId) (fn : Func) (hf : Tryz.pinned.checked.prog.funcNamed "cairn/cairnlaw14.ShapeSorts" = some f) (hfn : Tryz.pinned.checked.prog.funcs[f]? = some fn) :
    true = Tryz.pinned.checked.prog.looks [] ∧ ∀ (j : Nat) t, fn.params[j]? = some t → Tryz.pinned.checked.prog.wantsStandIn t = false := by
  obtain rfl : f = 3 := Option.some.inj ((show Tryz.prog.funcNamed "cairn/cairnlaw14.ShapeSorts" = some 3 by kernel_rfl).symm.trans hf) |>.symm
  obtain rfl : fn = Tryz.f3 := (Option.some.inj (Tryz.func3.symm.trans hfn)).symm
  refine ⟨by kernel_rfl, fun j t ht => ?_⟩
  rw [Tryz.params3] at ht
  have ht' : t = 22 ∨ t = 23 := by simpa using Array.mem_of_getElem? ht
  rcases ht' with rfl | rfl
  · exact (show Tryz.prog.wantsStandIn 22 = false by kernel_rfl)
  · exact (show Tryz.prog.wantsStandIn 23 = false by kernel_rfl)
theorem card : Rows.ShapeSortsUptoCardSaid :=
  Claim7.holds_tied_plain_at .later [] _ _ _ _ said (fun _ h => by cases h) (by kernel_rfl) (fun _ h => by cases h) shapeSortsUpto_row_tie rfl ⟨rfl, rfl⟩ (by kernel_rfl) rfl plain (by kernel_rfl)
end shapeSorts
theorem shapeSorts_holds : Rows.ShapeSortsUptoCardSaid := shapeSorts.card
end Go.Proofs.YtdibpdpcbnijeaaGreatDoor
