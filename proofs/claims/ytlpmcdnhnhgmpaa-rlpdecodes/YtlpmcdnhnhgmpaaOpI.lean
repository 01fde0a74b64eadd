/-
  Arguments opened: bytes, an item.
-/
import Derived.Test.YtlpmcdnhnhgmpaaLie
import Derived.SizedLaws
import Derived.OpenShut
import Derived.Laws.BytesArg
import Derived.Deep.Slices
namespace Go.Proofs.Ytlpmcdnhnhgmpaa
open Go.ChangeShapes Go.WideShapes Go.ChangeAt Go.RowKit

theorem laidOut : laidOutB Try.prog = true := by kernel_rfl
theorem cells5 : Try.prog.cellsOf 5 = 1 := by kernel_rfl
theorem bytes5 : Try.prog.bytesOf 5 = 1 := by kernel_rfl
theorem bytes34 : Try.prog.bytesOf 34 = 56 := by kernel_rfl
theorem cells4 : Try.prog.cellsOf 4 = 1 := by kernel_rfl
theorem cells22 : Try.prog.cellsOf 22 = 1 := by kernel_rfl
theorem cells32 : Try.prog.cellsOf 32 = 1 := by kernel_rfl
theorem cells34 : Try.prog.cellsOf 34 = 3 := by kernel_rfl
theorem reach4 : reachBytes = 140737488351232 := by decide
theorem view_empty (w : World) (a : Option Addr) (b off n : Nat) (Z : Nat → Int) (h : n = 0) : View w a b off n Z :=
  ⟨fun h' => absurd h' (by omega), fun i hi => absurd hi (by omega), fun i hi => absurd hi (by omega), by omega⟩
theorem oaddr_at {w : World} {a : Addr} {v : Value} (h : w.cell? (a.add 0) = some v) : a = ⟨a.block, a.off, none⟩ := by
  obtain ⟨bl, o, sp⟩ := a
  cases sp with
  | none => rfl
  | some x =>
    exfalso
    have e : (⟨bl, o, some x⟩ : Addr).add 0 = ⟨bl, o, some x⟩ := by unfold Addr.add; simp
    rw [e] at h
    unfold World.cell? at h
    split at h <;> simp at h
/-- bytes -/
theorem open_bytesW {H : Type} {enc : TypeId × Value → H} {W : World} {fuel : Nat} {v : Value} {d : DataW H} {p : List MemPlace}
    (hf : DataW.trod enc Try.prog W 0 (fun _ => true) true fuel 22 [v] = some (d, p)) (hk : ∀ n ∈ d.weights Try.prog 22, n ≤ reachBytes) : ∃ t, Vb W v t := by
  rcases open_ints Try.underlying22 Try.underlying5 cells5 hf with ⟨hcs, hx⟩ | ⟨a, len, cap, zs, hcs, _, hl, hm, hz, hx, hcell, hwz⟩
  · simp only [List.cons.injEq, and_true] at hcs
    subst hcs
    exact ⟨[], none, 0, 0, 0, rfl, view_empty _ _ _ _ _ _ rfl, Nat.le_refl _, fun _ => rfl, by simp⟩
  · simp only [List.cons.injEq, and_true] at hcs
    subst hcs
    simp only [Prod.mk.injEq] at hx
    simp only [if_true] at hz
    have hlen : len ≤ 140737488351232 := by
      have e : (lits (H := H) .u8 (zs.take len)).length = len := by simp [lits]; omega
      have q := hk ((lits (H := H) .u8 (zs.take len)).length * Try.prog.bytesOf 5 + (lits (H := H) .u8 (zs.drop len)).length * Try.prog.bytesOf 5) (by
        rw [hx.1, ← Nat.add_mul]
        simp only [DataW.weights, Try.underlying22]
        exact List.mem_cons_self)
      rw [bytes5, reach4] at q
      omega
    by_cases h0 : 0 < len
    · obtain ⟨b, off, rfl, hc⟩ := ints_at hcell (by omega)
      have bd : ∀ j, 0 ≤ zs.getD j 0 ∧ zs.getD j 0 ≤ 255 := fun j => by
        have := range_u8 hwz j
        simpa [List.getD] using this
      refine ⟨lst len (fun i => (zs.getD i 0).toNat % 256), _, b, off, cap, by rw [lst_len], vw_of ⟨fun _ => rfl, fun i hi => ?_, fun i hi => ?_, by omega⟩, by rw [lst_len]; exact hl, (fun h => by cases h), by rw [lst_len]; exact hlen⟩
      · have c := hc i (by omega)
        rw [c]
        have b1 := bd i
        show some (Value.int .u8 (zs.getD i 0)) = some (Value.int .u8 ((((zs.getD i 0).toNat % 256 : Nat)) : Int))
        congr 2
        omega
      · have := Nat.mod_lt (zs.getD i 0).toNat (show 0 < 256 by decide)
        show 0 ≤ ((((zs.getD i 0).toNat % 256 : Nat)) : Int) ∧ ((((zs.getD i 0).toNat % 256 : Nat)) : Int) ≤ 255
        omega
    · have e0 : len = 0 := by omega
      subst e0
      exact ⟨[], _, 0, 0, cap, rfl, view_empty _ _ _ _ _ _ rfl, by simp, (fun h => by cases h), by simp⟩
theorem wall_mem {H : Type} {P : Program} {e : TypeId} : ∀ {l : List (DataW H)} {d : DataW H}, d ∈ l → ∀ n ∈ d.weights P e, n ∈ DataW.weightsAll P e l
  | x :: l, d, h, n, hn => by
    simp only [DataW.weightsAll, List.mem_append]
    rcases List.mem_cons.1 h with rfl | h
    · exact Or.inl hn
    · exact Or.inr (wall_mem h n hn)
theorem underIt : ∃ f0 f1 f2 : Field, Try.prog.underlying 34 = some (.struct #[f0, f1, f2]) ∧ (f0.type = 4 ∧ f0.offset = 0) ∧ (f1.type = 22 ∧ f1.offset = 1) ∧ (f2.type = 32 ∧ f2.offset = 2) :=
  ⟨_, _, _, Try.underlying34, ⟨rfl, rfl⟩, ⟨rfl, rfl⟩, rfl, rfl⟩

set_option maxRecDepth 100000 in
/-- AN ITEM -/
theorem open_item {H : Type} {enc : TypeId × Value → H} {W : World} : ∀ (fuel : Nat) (cs : List Value) (d : DataW H) (p : List MemPlace),
    DataW.trod enc Try.prog W 0 (fun _ => true) true fuel 34 cs = some (d, p) → (∀ n ∈ d.weights Try.prog 34, n ≤ reachBytes) → ∃ x vb vi, cs = [.bool x.l, vb, vi] ∧ Lies Vb W x vb vi := by
  intro fuel
  induction fuel using Nat.strongRecOn with
  | _ fuel ih =>
    intro cs d p hf hk
    obtain ⟨f0, f1, f2, hu, ⟨t0, o0⟩, ⟨t1, o1⟩, t2, o2⟩ := underIt
    obtain ⟨xs, n1, rfl, hxy, hcl, hxl, hg⟩ := DataW.trod_struct hu hf
    rw [cells34] at hcl
    obtain ⟨c0, c1, c2, rfl⟩ : ∃ c0 c1 c2, cs = [c0, c1, c2] := by
      match cs, hcl with
      | [c0, c1, c2], _ => exact ⟨c0, c1, c2, rfl⟩
    match xs, hxl with
    | [y0, y1, y2], _ =>
      have g0 := hg 0 f0 rfl
      have g1 := hg 1 f1 rfl
      have g2 := hg 2 f2 rfl
      simp [t0, o0, t1, o1, t2, o2, cells4, cells22, cells32] at g0 g1 g2
      simp only [Prod.mk.injEq] at hxy
      have hw : DataW.weightsEach Try.prog [4, 22, 32] [y0.1, y1.1, y2.1] = d.weights Try.prog 34 := by
        rw [hxy.1]
        simp only [DataW.weights, hu, List.map_cons, List.map_nil, t0, t1, t2]
      obtain ⟨l, e0, _⟩ := DataW.trod_bool Try.underlying4 g0
      obtain ⟨b, hB⟩ := open_bytesW (d := y1.1) (p := y1.2) g1 (fun n hn => hk n (by
        rw [← hw]
        simp only [DataW.weightsEach]
        exact List.mem_append_right _ (List.mem_append_left _ hn)))
      have hk2 : ∀ n ∈ y2.1.weights Try.prog 32, n ≤ reachBytes := fun n hn => hk n (by
        rw [← hw]
        simp only [DataW.weightsEach]
        exact List.mem_append_right _ (List.mem_append_right _ (List.mem_append_left _ hn)))
      simp only [List.cons.injEq, and_true] at e0
      subst e0
      rcases DataW.trod_slice Try.underlying32 g2 with ⟨hcs, hx⟩ | ⟨a, len, cap, elems, rest, n2, hn2, hcs, hx, _, hl, hm, hlen, hel, hsp, hns⟩
      · simp only [List.cons.injEq, and_true] at hcs
        subst hcs
        exact ⟨.mk l b [], c1, .slice none 0 0, rfl, Its.shut (xs := []) (blk := 0) (off := 0) ⟨fun h => by simp at h, by simp, fun i x hx => by simp at hx⟩ hB⟩
      · simp only [List.cons.injEq, and_true] at hcs
        subst hcs
        rw [cells34] at hel
        have hx1 : y2.1 = .slice (elems.map (·.1)) (rest.map (·.1)) := by rw [hx]
        have hlen56 : 56 * len ≤ 140737488351232 := by
          have q := hk2 (((elems.map (·.1)).length + (rest.map (·.1)).length) * Try.prog.bytesOf 34) (by
            rw [hx1]
            simp only [DataW.weights, Try.underlying32]
            exact List.mem_cons_self)
          rw [bytes34, reach4] at q
          simp only [List.length_map, hlen] at q
          omega
        have kids : ∀ i, i < len → ∃ x vb vi, W.cells? 0 (a.add (i * 3)) 3 = some [.bool x.l, vb, vi] ∧ Lies Vb W x vb vi := fun i hi => by
          have h1 := hel i hi
          have h2 : elems[i]? = some elems[i] := List.getElem?_eq_getElem (by omega)
          rw [h2] at h1
          obtain ⟨cs', hc', ht'⟩ := Option.bind_eq_some_iff.1 h1
          obtain ⟨x, vb, vi, e, hL⟩ := ih n2 (by omega) cs' elems[i].1 elems[i].2 ht' (fun n hn => hk2 n (by
            rw [hx1]
            simp only [DataW.weights, Try.underlying32]
            exact List.mem_cons_of_mem _ (List.mem_append_left _ (wall_mem (d := elems[i].1) (List.mem_map.2 ⟨elems[i], List.getElem_mem _, rfl⟩) _ hn))))
          exact ⟨x, vb, vi, by rw [hc', e], hL⟩
        have ch : ∀ i, ∃ q : It × Value × Value, i < len → W.cells? 0 (a.add (i * 3)) 3 = some [.bool q.1.l, q.2.1, q.2.2] ∧ Lies Vb W q.1 q.2.1 q.2.2 := fun i => by
          by_cases hi : i < len
          · obtain ⟨x, vb, vi, h1, h2⟩ := kids i hi
            exact ⟨(x, vb, vi), fun _ => ⟨h1, h2⟩⟩
          · exact ⟨(.mk false [] [], .bool true, .bool true), fun h => absurd h hi⟩
        have hq := fun i => (ch i).choose_spec
        obtain ⟨Q, hQ⟩ : ∃ Q : Nat → It × Value × Value, ∀ i, i < len → W.cells? 0 (a.add (i * 3)) 3 = some [.bool (Q i).1.l, (Q i).2.1, (Q i).2.2] ∧ Lies Vb W (Q i).1 (Q i).2.1 (Q i).2.2 := ⟨fun i => (ch i).choose, hq⟩
        have lq : ((List.range len).map (fun i => (Q i).1)).length = len := by simp
        by_cases h0 : 0 < len
        · have ea : a = ⟨a.block, a.off, none⟩ := by
            obtain ⟨z1, _⟩ := hQ 0 h0
            obtain ⟨_, zl, zc⟩ := World.cells?_some z1
            have z := zc 0 (by simp)
            rw [Nat.zero_mul, Deep.add_add, Nat.add_zero] at z
            exact oaddr_at z
          refine ⟨.mk l b ((List.range len).map (fun i => (Q i).1)), c1, .slice (some a) len cap, rfl, ?_⟩
          have := Its.shut (R := Vb) (w := W) (l := l) (b := b) (xs := (List.range len).map (fun i => (Q i).1)) (vb := c1) (a := some a) (blk := a.block) (off := a.off) (c := cap) ⟨fun _ => congrArg some ea, by rw [lq]; exact hlen56, fun i x hx => by
            have hi : i < len := by
              have := (List.getElem?_eq_some_iff.1 hx).1
              rwa [lq] at this
            rw [List.getElem?_map, List.getElem?_range hi] at hx
            have hx := Option.some.inj hx
            simp only at hx
            subst hx
            obtain ⟨z1, z2⟩ := hQ i hi
            obtain ⟨_, zl, zc⟩ := World.cells?_some z1
            obtain ⟨q1, q2, q3, q4, q5, q6, e1, e2⟩ := z2.form
            have k0 := zc 0 (by simp)
            have k1 := zc 1 (by simp)
            have k2 := zc 2 (by simp)
            rw [Deep.add_add, ea, add_plain] at k0 k1 k2
            refine ⟨q1, q2, q3, q4, q5, q6, ?_, ?_, ?_, ?_⟩
            · rw [Nat.add_zero] at k0; exact k0
            · rw [Nat.add_assoc]; exact k1.trans (by simp [e1])
            · rw [Nat.add_assoc]; exact k2.trans (by simp [e2])
            · rw [← e1, ← e2]; exact z2⟩ hB
          rw [lq] at this
          exact this
        · have e0 : len = 0 := by omega
          subst e0
          exact ⟨.mk l b [], c1, .slice (some a) 0 cap, rfl, Its.shut (xs := []) (blk := 0) (off := 0) ⟨fun h => by simp at h, by simp, fun i x hx => by simp at hx⟩ hB⟩
theorem okWide_struct {P : Program} {w : World} {r : Reach} {base : Nat} {t : TypeId} {v : Value} {fs : Array Field} (ht : P.underlying t = some (.struct fs)) (h : Value.okWide P w r base t v) : ∃ cs, v = .agg cs ∧ cs.size = P.cellsOf t := by
  unfold Value.okWide at h
  rw [ht] at h
  obtain ⟨cs, h1, h2, _⟩ := h
  exact ⟨cs, h1, h2⟩
/-- AN ARGUMENT THAT IS AN ITEM -/
theorem open_itemA {H : Type} {enc : TypeId × Value → H} {W : World} {base : Nat} {v : Value} {d : DataW H} {p : List MemPlace} (hv : Value.okWide Try.prog W .any base 34 v) (h : DataW.Trod enc Try.prog W 0 (fun _ => true) true 34 v d p) (hk : ∀ n ∈ d.weights Try.prog 34, n ≤ reachBytes) :
    ∃ x vb vi, v = iv x.l vb vi ∧ Lies Vb W x vb vi := by
  obtain ⟨f0, f1, f2, hu, -⟩ := underIt
  obtain ⟨cs, rfl, hsz⟩ := okWide_struct hu hv
  obtain ⟨fuel, hf⟩ := h
  simp only [Value.cells] at hf
  obtain ⟨x, vb, vi, e, hL⟩ := open_item fuel cs.toList d p hf hk
  refine ⟨x, vb, vi, ?_, hL⟩
  have : cs = #[.bool x.l, vb, vi] := by cases cs; simp_all
  rw [this]
/-- AN ARGUMENT OF BYTES -/
theorem open_bytesA {H : Type} {enc : TypeId × Value → H} {W : World} {base : Nat} {v : Value} {d : DataW H} {p : List MemPlace} (hv : Value.okWide Try.prog W .any base 22 v) (h : DataW.Trod enc Try.prog W 0 (fun _ => true) true 22 v d p) (hk : ∀ n ∈ d.weights Try.prog 22, n ≤ reachBytes) : ∃ t, Vb W v t := by
  obtain ⟨fuel, hf⟩ := h
  obtain ⟨a, n, c, rfl⟩ := okWide_slice Try.underlying22 hv
  exact open_bytesW (by simpa [Value.cells] using hf) hk
end Go.Proofs.Ytlpmcdnhnhgmpaa
