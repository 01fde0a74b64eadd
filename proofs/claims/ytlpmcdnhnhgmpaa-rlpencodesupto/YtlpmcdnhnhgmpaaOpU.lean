/-
  An item opened, with a bound of its form: for the second form of a statement.
-/
import Derived.Test.YtlpmcdnhnhgmpaaOpI
import Derived.Test.YtlpmcdnhnhgmpaaRows
namespace Go.Proofs.Ytlpmcdnhnhgmpaa
open Go.ChangeShapes Go.WideShapes Go.ChangeAt Go.RowKit

theorem bulk_pos {H : Type} (d : DataW H) : 1 ≤ Rows.uptoBulk d := by
  cases d with
  | lit l => cases l <;> simp [Rows.uptoBulk]
  | _ => simp [Rows.uptoBulk]
theorem bulk_len {H : Type} : ∀ l : List (DataW H), l.length ≤ Rows.uptoBulkAll l
  | [] => by simp [Rows.uptoBulkAll]
  | d :: r => by
    have h1 := bulk_pos d
    have h2 := bulk_len r
    simp only [Rows.uptoBulkAll, List.length_cons]
    omega
theorem bulk_mem {H : Type} {d : DataW H} : ∀ {l : List (DataW H)}, d ∈ l → Rows.uptoBulk d ≤ Rows.uptoBulkAll l
  | x :: l, h => by
    simp only [Rows.uptoBulkAll]
    rcases List.mem_cons.1 h with rfl | e
    · omega
    · have := bulk_mem e; omega
theorem bulk_app {H : Type} : ∀ l r : List (DataW H), Rows.uptoBulkAll (l ++ r) = Rows.uptoBulkAll l + Rows.uptoBulkAll r
  | [], r => by simp [Rows.uptoBulkAll]
  | d :: l, r => by
    simp only [List.cons_append, Rows.uptoBulkAll]
    rw [bulk_app l r]
    omega
theorem hdr_le (base n : Nat) (h : n ≤ 1099511627776) : (hdr base n).length ≤ 7 := by
  have := digs_len_le (n := n) (k := 6) (by omega)
  unfold hdr
  split <;> simp <;> omega
theorem forms_bulk {H : Type} (E : List (DataW H)) (q : Nat → It) : ∀ n, n ≤ E.length → (∀ i, i < n → (form (q i)).length ≤ 16 * Rows.uptoBulk (E[i]?.getD .nil)) → (forms ((List.range n).map q)).length ≤ 16 * Rows.uptoBulkAll E := by
  intro n hn h
  suffices ∀ m, m ≤ n → (forms ((List.range m).map q)).length ≤ 16 * Rows.uptoBulkAll (E.take m) by
    have h1 := this n (Nat.le_refl _)
    have h2 : Rows.uptoBulkAll E = Rows.uptoBulkAll (E.take n) + Rows.uptoBulkAll (E.drop n) := by rw [← bulk_app, List.take_append_drop]
    omega
  intro m
  induction m with
  | zero => intro _; rw [List.range_zero, List.map_nil, forms_nil]; simp
  | succ m ih =>
    intro hm
    have h1 := ih (by omega)
    have h2 := h m (by omega)
    have h3 : m < E.length := by omega
    rw [List.range_succ, List.map_append, forms_app, List.length_append, List.map_cons, List.map_nil, forms_cons, forms_nil, List.append_nil, List.take_succ_eq_append_getElem h3, bulk_app]
    rw [List.getElem?_eq_getElem h3] at h2
    simp only [Rows.uptoBulkAll]
    simp only [Option.getD_some] at h2
    omega
/-- bytes -/
theorem open_bytesU {H : Type} {enc : TypeId × Value → H} {W : World} {fuel : Nat} {v : Value} {d : DataW H} {p : List MemPlace}
    (hf : DataW.trod enc Try.prog W 0 (fun _ => true) true fuel 22 [v] = some (d, p)) (hk : ∀ n ∈ d.weights Try.prog 22, n ≤ reachBytes) : ∃ t, Vb W v t ∧ t.length ≤ Rows.uptoBulk d := by
  rcases open_ints Try.underlying22 Try.underlying5 cells5 hf with ⟨hcs, hx⟩ | ⟨a, len, cap, zs, hcs, _, hl, hm, hz, hx, hcell, hwz⟩
  · simp only [List.cons.injEq, and_true] at hcs
    subst hcs
    exact ⟨[], ⟨none, 0, 0, 0, rfl, view_empty _ _ _ _ _ _ rfl, Nat.le_refl _, fun _ => rfl, by simp⟩, by simp⟩
  · simp only [List.cons.injEq, and_true] at hcs
    subst hcs
    simp only [Prod.mk.injEq] at hx
    simp only [if_true] at hz
    have hlen : len ≤ 140737488351232 := by
      have e : (lits (H := H) .u8 (zs.take len)).length = len := by simp [lits]; omega
      have q := hk ((lits (H := H) .u8 (zs.take len)).length * Try.prog.bytesOf 5 + (lits (H := H) .u8 (zs.drop len)).length * Try.prog.bytesOf 5) (by
        rw [hx.1, ← Nat.add_mul]
        simp only [DataW.weights, Try.underlying22]
        exact List.mem_cons_self)
      rw [bytes5, reach4] at q
      omega
    have hbk : len ≤ Rows.uptoBulk d := by
      rw [hx.1]
      have a1 := bulk_len (H := H) (lits .u8 (zs.take len))
      have e : (lits (H := H) .u8 (zs.take len)).length = len := by simp [lits]; omega
      simp only [Rows.uptoBulk]
      omega
    by_cases h0 : 0 < len
    · obtain ⟨b, off, rfl, hc⟩ := ints_at hcell (by omega)
      have bd : ∀ j, 0 ≤ zs.getD j 0 ∧ zs.getD j 0 ≤ 255 := fun j => by
        have := range_u8 hwz j
        simpa [List.getD] using this
      refine ⟨lst len (fun i => (zs.getD i 0).toNat % 256), ⟨_, b, off, cap, by rw [lst_len], vw_of ⟨fun _ => rfl, fun i hi => ?_, fun i hi => ?_, by omega⟩, by rw [lst_len]; exact hl, (fun h => by cases h), by rw [lst_len]; exact hlen⟩, by rw [lst_len]; exact hbk⟩
      · have c := hc i (by omega)
        rw [c]
        have b1 := bd i
        show some (Value.int .u8 (zs.getD i 0)) = some (Value.int .u8 ((((zs.getD i 0).toNat % 256 : Nat)) : Int))
        congr 2
        omega
      · have := Nat.mod_lt (zs.getD i 0).toNat (show 0 < 256 by decide)
        show 0 ≤ ((((zs.getD i 0).toNat % 256 : Nat)) : Int) ∧ ((((zs.getD i 0).toNat % 256 : Nat)) : Int) ≤ 255
        omega
    · have e0 : len = 0 := by omega
      subst e0
      exact ⟨[], ⟨_, 0, 0, cap, rfl, view_empty _ _ _ _ _ _ rfl, by simp, (fun h => by cases h), by simp⟩, by simp⟩
set_option maxRecDepth 100000 in
/-- AN ITEM -/
theorem open_itemU {H : Type} {enc : TypeId × Value → H} {W : World} : ∀ (fuel : Nat) (cs : List Value) (d : DataW H) (p : List MemPlace),
    DataW.trod enc Try.prog W 0 (fun _ => true) true fuel 34 cs = some (d, p) → (∀ n ∈ d.weights Try.prog 34, n ≤ reachBytes) → Rows.uptoBulk d ≤ 1048576 → ∃ x vb vi, cs = [.bool x.l, vb, vi] ∧ Lies Vb W x vb vi ∧ (form x).length ≤ 16 * Rows.uptoBulk d := by
  intro fuel
  induction fuel using Nat.strongRecOn with
  | _ fuel ih =>
    intro cs d p hf hk hU
    obtain ⟨f0, f1, f2, hu, ⟨t0, o0⟩, ⟨t1, o1⟩, t2, o2⟩ := underIt
    obtain ⟨xs, n1, rfl, hxy, hcl, hxl, hg⟩ := DataW.trod_struct hu hf
    rw [cells34] at hcl
    obtain ⟨c0, c1, c2, rfl⟩ : ∃ c0 c1 c2, cs = [c0, c1, c2] := by
      match cs, hcl with
      | [c0, c1, c2], _ => exact ⟨c0, c1, c2, rfl⟩
    match xs, hxl with
    | [y0, y1, y2], _ =>
      have g0 := hg 0 f0 rfl
      have g1 := hg 1 f1 rfl
      have g2 := hg 2 f2 rfl
      simp [t0, o0, t1, o1, t2, o2, cells4, cells22, cells32] at g0 g1 g2
      simp only [Prod.mk.injEq] at hxy
      have hw : DataW.weightsEach Try.prog [4, 22, 32] [y0.1, y1.1, y2.1] = d.weights Try.prog 34 := by
        rw [hxy.1]
        simp only [DataW.weights, hu, List.map_cons, List.map_nil, t0, t1, t2]
      obtain ⟨l, e0, _⟩ := DataW.trod_bool Try.underlying4 g0
      obtain ⟨b, hB, hbU⟩ := open_bytesU (d := y1.1) (p := y1.2) g1 (fun n hn => hk n (by
        rw [← hw]
        simp only [DataW.weightsEach]
        exact List.mem_append_right _ (List.mem_append_left _ hn)))
      have hk2 : ∀ n ∈ y2.1.weights Try.prog 32, n ≤ reachBytes := fun n hn => hk n (by
        rw [← hw]
        simp only [DataW.weightsEach]
        exact List.mem_append_right _ (List.mem_append_right _ (List.mem_append_left _ hn)))
      simp only [List.cons.injEq, and_true] at e0
      subst e0
      have hD : Rows.uptoBulk d = Rows.uptoBulk y0.1 + Rows.uptoBulk y1.1 + Rows.uptoBulk y2.1 + 1 := by
        rw [hxy.1]
        simp only [Rows.uptoBulk, Rows.uptoBulkAll, List.map_cons, List.map_nil]
        omega
      have hfm : ∀ (zs : List It) (T : Nat), (forms zs).length ≤ 16 * T → T ≤ Rows.uptoBulk y2.1 → (form (.mk l b zs)).length ≤ 16 * Rows.uptoBulk d := fun zs T h1 h2 => by
        have p0 := bulk_pos y0.1
        have hd1 := hdr_le 192 (forms zs).length (by omega)
        have hd2 := hdr_le 128 b.length (by omega)
        rw [form_mk]
        split
        · rw [List.length_append]; omega
        · split
          · omega
          · rw [List.length_append]; omega
      rcases DataW.trod_slice Try.underlying32 g2 with ⟨hcs, hx⟩ | ⟨a, len, cap, elems, rest, n2, hn2, hcs, hx, _, hl, hm, hlen, hel, hsp, hns⟩
      · simp only [List.cons.injEq, and_true] at hcs
        subst hcs
        exact ⟨.mk l b [], c1, .slice none 0 0, rfl, Its.shut (xs := []) (blk := 0) (off := 0) ⟨fun h => by simp at h, by simp, fun i x hx => by simp at hx⟩ hB, hfm [] 0 (by rw [forms_nil]; simp) (Nat.zero_le _)⟩
      · simp only [List.cons.injEq, and_true] at hcs
        subst hcs
        rw [cells34] at hel
        have hx1 : y2.1 = .slice (elems.map (·.1)) (rest.map (·.1)) := by rw [hx]
        have hlen56 : 56 * len ≤ 140737488351232 := by
          have q := hk2 (((elems.map (·.1)).length + (rest.map (·.1)).length) * Try.prog.bytesOf 34) (by
            rw [hx1]
            simp only [DataW.weights, Try.underlying32]
            exact List.mem_cons_self)
          rw [bytes34, reach4] at q
          simp only [List.length_map, hlen] at q
          omega
        have hY : Rows.uptoBulkAll (elems.map (·.1)) ≤ Rows.uptoBulk y2.1 := by rw [hx1]; simp only [Rows.uptoBulk]; omega
        have kids : ∀ i, i < len → ∃ x vb vi, W.cells? 0 (a.add (i * 3)) 3 = some [.bool x.l, vb, vi] ∧ Lies Vb W x vb vi ∧ (form x).length ≤ 16 * Rows.uptoBulk ((elems.map (·.1))[i]?.getD .nil) := fun i hi => by
          have h1 := hel i hi
          have h2 : elems[i]? = some elems[i] := List.getElem?_eq_getElem (by omega)
          rw [h2] at h1
          obtain ⟨cs', hc', ht'⟩ := Option.bind_eq_some_iff.1 h1
          have hm : elems[i].1 ∈ elems.map (·.1) := List.mem_map.2 ⟨elems[i], List.getElem_mem _, rfl⟩
          have hb1 := bulk_mem hm
          obtain ⟨x, vb, vi, e, hL, hF⟩ := ih n2 (by omega) cs' elems[i].1 elems[i].2 ht' (fun n hn => hk2 n (by
            rw [hx1]
            simp only [DataW.weights, Try.underlying32]
            exact List.mem_cons_of_mem _ (List.mem_append_left _ (wall_mem (d := elems[i].1) (List.mem_map.2 ⟨elems[i], List.getElem_mem _, rfl⟩) _ hn)))) (by omega)
          exact ⟨x, vb, vi, by rw [hc', e], hL, by rw [List.getElem?_map, h2]; exact hF⟩
        have ch : ∀ i, ∃ q : It × Value × Value, i < len → W.cells? 0 (a.add (i * 3)) 3 = some [.bool q.1.l, q.2.1, q.2.2] ∧ Lies Vb W q.1 q.2.1 q.2.2 ∧ (form q.1).length ≤ 16 * Rows.uptoBulk ((elems.map (·.1))[i]?.getD .nil) := fun i => by
          by_cases hi : i < len
          · obtain ⟨x, vb, vi, h1, h2⟩ := kids i hi
            exact ⟨(x, vb, vi), fun _ => ⟨h1, h2⟩⟩
          · exact ⟨(.mk false [] [], .bool true, .bool true), fun h => absurd h hi⟩
        have hq := fun i => (ch i).choose_spec
        obtain ⟨Q, hQ⟩ : ∃ Q : Nat → It × Value × Value, ∀ i, i < len → W.cells? 0 (a.add (i * 3)) 3 = some [.bool (Q i).1.l, (Q i).2.1, (Q i).2.2] ∧ Lies Vb W (Q i).1 (Q i).2.1 (Q i).2.2 ∧ (form (Q i).1).length ≤ 16 * Rows.uptoBulk ((elems.map (·.1))[i]?.getD .nil) := ⟨fun i => (ch i).choose, hq⟩
        have lq : ((List.range len).map (fun i => (Q i).1)).length = len := by simp
        by_cases h0 : 0 < len
        · have ea : a = ⟨a.block, a.off, none⟩ := by
            obtain ⟨z1, _, _⟩ := hQ 0 h0
            obtain ⟨_, zl, zc⟩ := World.cells?_some z1
            have z := zc 0 (by simp)
            rw [Nat.zero_mul, Deep.add_add, Nat.add_zero] at z
            exact oaddr_at z
          refine ⟨.mk l b ((List.range len).map (fun i => (Q i).1)), c1, .slice (some a) len cap, rfl, ?_, hfm _ (Rows.uptoBulkAll (elems.map (·.1))) (forms_bulk (elems.map (·.1)) (fun i => (Q i).1) len (by simp [hlen]) (fun i hi => (hQ i hi).2.2)) hY⟩
          have := Its.shut (R := Vb) (w := W) (l := l) (b := b) (xs := (List.range len).map (fun i => (Q i).1)) (vb := c1) (a := some a) (blk := a.block) (off := a.off) (c := cap) ⟨fun _ => congrArg some ea, by rw [lq]; exact hlen56, fun i x hx => by
            have hi : i < len := by
              have := (List.getElem?_eq_some_iff.1 hx).1
              rwa [lq] at this
            rw [List.getElem?_map, List.getElem?_range hi] at hx
            have hx := Option.some.inj hx
            simp only at hx
            subst hx
            obtain ⟨z1, z2, -⟩ := hQ i hi
            obtain ⟨_, zl, zc⟩ := World.cells?_some z1
            obtain ⟨q1, q2, q3, q4, q5, q6, e1, e2⟩ := z2.form
            have k0 := zc 0 (by simp)
            have k1 := zc 1 (by simp)
            have k2 := zc 2 (by simp)
            rw [Deep.add_add, ea, add_plain] at k0 k1 k2
            refine ⟨q1, q2, q3, q4, q5, q6, ?_, ?_, ?_, ?_⟩
            · rw [Nat.add_zero] at k0; exact k0
            · rw [Nat.add_assoc]; exact k1.trans (by simp [e1])
            · rw [Nat.add_assoc]; exact k2.trans (by simp [e2])
            · rw [← e1, ← e2]; exact z2⟩ hB
          rw [lq] at this
          exact this
        · have e0 : len = 0 := by omega
          subst e0
          exact ⟨.mk l b [], c1, .slice (some a) 0 cap, rfl, Its.shut (xs := []) (blk := 0) (off := 0) ⟨fun h => by simp at h, by simp, fun i x hx => by simp at hx⟩ hB, hfm [] 0 (by rw [forms_nil]; simp) (Nat.zero_le _)⟩
theorem open_itemAU {H : Type} {enc : TypeId × Value → H} {W : World} {base : Nat} {v : Value} {d : DataW H} {p : List MemPlace} (hv : Value.okWide Try.prog W .any base 34 v) (h : DataW.Trod enc Try.prog W 0 (fun _ => true) true 34 v d p) (hk : ∀ n ∈ d.weights Try.prog 34, n ≤ reachBytes) (hU : Rows.uptoBulk d ≤ 1048576) :
    ∃ x vb vi, v = iv x.l vb vi ∧ Lies Vb W x vb vi ∧ (form x).length ≤ 16777216 := by
  obtain ⟨f0, f1, f2, hu, -⟩ := underIt
  obtain ⟨cs, rfl, hsz⟩ := okWide_struct hu hv
  obtain ⟨fuel, hf⟩ := h
  simp only [Value.cells] at hf
  obtain ⟨x, vb, vi, e, hL, hF⟩ := open_itemU fuel cs.toList d p hf hk hU
  refine ⟨x, vb, vi, ?_, hL, by omega⟩
  have : cs = #[.bool x.l, vb, vi] := by cases cs; simp_all
  rw [this]
end Go.Proofs.Ytlpmcdnhnhgmpaa
