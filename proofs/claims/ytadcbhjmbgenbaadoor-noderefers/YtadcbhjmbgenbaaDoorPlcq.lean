import Derived.Test.YtadcbhjmbgenbaaDoorAddFq
import Derived.Lib.QuietBelow
/-
  notes: place, has, add, met.
-/
namespace Go.Proofs.YtadcbhjmbgenbaaDoor
open Go.RowKit Go.Sort Go.Maps

/-- NOTES AS THEY STAND IN A STRUCT: the map's and the count's cell. -/
structure NAt (w : World) (p o bm : Nat) (F : Nat → Prop) (κ : List Nat → List Nat) (L : List (List Nat)) : Prop where
  map : w.cell? ⟨p, o, none⟩ = some (.map (some bm))
  cnt : w.cell? ⟨p, o + 1, none⟩ = some (.int .i64 (L.length : Nat))
  fz : w.frozen? ⟨p, o + 1, none⟩ = false
  notes : Notes w bm F κ L
  out : ¬ F p
  lim : ∀ i, F i → i < w.heap.size
theorem NAt.below {w w' : World} {p o bm : Nat} {F : Nat → Prop} {κ : List Nat → List Nat} {L : List (List Nat)} (h : NAt w p o bm F κ L) (hb : Below w.heap.size w w') : NAt w' p o bm F κ L := by
  have hp : p < w.heap.size := World.block_lt_of_cell? w ⟨p, o, none⟩ h.map
  refine ⟨(hb.cell (p := ⟨p, o, none⟩) hp).trans h.map, (hb.cell (p := ⟨p, o + 1, none⟩) hp).trans h.cnt, (World.frozen?_of_block (w := w) (hb.block p hp)).trans h.fz, h.notes.turn (Turn.of_below hb (F := fun _ => False)) (fun _ _ _ q => q), h.out, fun i q => Nat.lt_of_lt_of_le (h.lim i q) hb.size⟩
theorem hL_len {k : List Nat} (h : IsH k) : (Tryd.prog.info? 31).map (·.size) = some (bv k).length := by rw [bv_len, h.1]; exact info26
theorem range_box {w : World} {g : Nat} {k : List Nat} (h : w.heap[g]? = some (.cells (hA k) 31 (0, 0))) : w.rangeAt g 0 (bv k) := by
  intro j v hv
  rw [Nat.zero_add, cell_of_row w g j _ 31 _ h]
  unfold hA
  rw [List.getElem?_toArray]
  exact hv

theorem quiet_lookup {P : Program} {ops : Array Oper} {C : World → Prop} {Q : Act → Prop} {a : Act} {o : Oper} {rest : List Oper} (hw : Region.wanted o (yielded ops a.tmps) = true) (t : TypeId) (m x : Operand) (ho : o.op = .lookup t m x false)
    (vm vx v : Value) (hm : a.eval m = vm) (hx : a.eval x = vx) (hr : ∀ w, C w → (Instr.lookup t vm vx false).run P w = .ok v w) (h : wpQuiet P ops C Q rest (a.put o.dst v)) : wpQuiet P ops C Q (o :: rest) a := by
  refine wpQuiet_step fun K hK => ?_
  rw [if_pos hw]
  refine ⟨v, fun w hC => ?_, hK _ h⟩
  unfold Oper.quietAt execOp
  simp only [ho, hm, hx, Sem.run_bind, hr w hC, Sem.run_pure, Result.andThen_ok]
  exact ⟨rfl, rfl⟩

set_option maxRecDepth 100000 in
set_option maxHeartbeats 1600000 in
theorem place_any (w : World) (p o bm : Nat) (F : Nat → Prop) (κ : List Nat → List Nat) (L : List (List Nat)) (h : NAt w p o bm F κ L) (k : List Nat) (hk : IsH k) (hL : L.length ≤ 1099511627776)
    (a : Option Addr) (b off c : Nat) (t : List Nat) (ht : Vw w a b off t) :
    Calls Tryd.prog 33 #[.pointer (some ⟨p, o, none⟩), .agg (hA k), .slice a t.length c] w fun e w' => e = .returned (.tuple #[.int .i64 (pos t (grp κ L k) : Nat), .bool (decide (t ∈ grp κ L k))]) ∧ Below w.heap.size w w' := by
  have bs := hA_size hk
  have b1 : Below w.heap.size w (w.alloc (.cells (hA k) 31)) := (Below.refl _ _).alloc (Nat.le_refl _) _
  have h1 := h.below b1
  have hbx : (w.alloc (.cells (hA k) 31)).heap[w.heap.size]? = some (.cells (hA k) 31 (0, 0)) := heap_alloc_new _ _
  have ht1 := ht.below b1
  obtain ⟨w1, hw1⟩ : ∃ w1, w1 = w.alloc (.cells (hA k) 31) := ⟨_, rfl⟩
  rw [← hw1] at b1 h1 hbx ht1
  obtain ⟨D, V, n, N⟩ := h1.notes
  have hgl : (grp κ L k).length ≤ 1099511627776 := Nat.le_trans (List.length_filter_le _ _) hL
  obtain ⟨xs, own, st⟩ := N.row k hk
  have kb := fun (d : Nat) (os : Array Obj) => Calls.regrown_of (w := w1) (d := d) (os := os) ((bsearch_any (grow (redrawn w1 d) os) (V k) xs (grp κ L k) F (own_below own (below_regrown w1 d os)) (st.imp (fun u _ s hs => hs.turn (Turn.of_below (below_regrown w1 d os) (F := fun _ => False)) (fun _ _ _ f => f))) (ris_grp N.ris k) hgl a b off c t (ht1.below (below_regrown w1 d os))).mono fun e w' ⟨he, hw'⟩ => ⟨he, by rw [hw']; exact Below.refl _ _⟩)
  have hlk : ∀ w', (∃ r : Regrown, w' = grow (redrawn w1 r.d) r.os) → (Instr.lookup 44 (.map (some bm)) (.agg (hA k)) false).run Tryd.prog w' = .ok (V k) w' := by
    rintro _ ⟨r, rfl⟩
    exact look (N.below (below_regrown w1 r.d r.os)) hk
  have hc : ∀ w', (∃ r : Regrown, w' = grow (redrawn w1 r.d) r.os) → ∀ j, j < (hA k).size → w'.cell? ⟨w.heap.size, j, none⟩ = (hA k)[j]? := by
    rintro _ ⟨r, rfl⟩ j hj
    rw [cell_of_row _ _ _ _ 31 _ (((below_regrown w1 r.d r.os).block _ (by have := (Array.getElem?_eq_some_iff.1 hbx).1; exact this)).trans hbx)]
  have s1 := fun (d : Nat) (os : Array Obj) => cell_regrown h1.map d os
  obtain ⟨r1, hr1⟩ : ∃ r, r = pos t (grp κ L k) := ⟨_, rfl⟩
  obtain ⟨r2, hr2⟩ : ∃ r, r = decide (t ∈ grp κ L k) := ⟨_, rfl⟩
  rw [← hr1, ← hr2] at kb ⊢
  generalize t.length = m at kb ⊢
  have HB : Hid (Below w.heap.size w w1) := b1
  have HI : Hid ((Tryd.prog.info? 31).map (·.size) = some (hA k).size) := hA_info hk
  clear hr1 hr2 own st N h1 ht ht1 b1 h hbx hgl hL
  go_enter Tryd.func33, Tryd.ntmps33
  go_wp2_with fail
  rw [← hw1]
  clear hw1
  refine wp_region_quiet_below (by kernel_rfl) (by kernel_rfl) ?_
  iterate 4 (go_big_quiet_step (fail))
  refine quiet_load (by rfl) 31 (.tmp 4) (by rfl) w.heap.size (by rfl) (hA k) _ hc Tryd.underlying31 rfl HI.out ?_
  refine quiet_lookup (by rfl) 44 _ _ (by rfl) (.map (some bm)) (.agg (hA k)) (V k) (by rfl) (by rfl) hlk ?_
  repeat (first
    | go_big_quiet_step (first | (go_at_call 47; exact kb _ _))
    | quiet_step (first | (go_at_call 47; exact kb _ _)))
  refine wpQuiet_nil ?_
  intro w9 hw'
  obtain ⟨⟨dq, osq⟩, hw''⟩ := hw'
  have b9 := below_regrown w1 dq osq
  have HC : Hid (Below w.heap.size w w9) := by rw [hw'']; exact HB.out.trans (b9.mono HB.out.size)
  clear hw'' b9 kb hlk hc s1
  go_wp2_with fail
  go_ret2
  exact ⟨rfl, HC.out⟩
end Go.Proofs.YtadcbhjmbgenbaaDoor
