import Derived.Test.YtpiinkfcaoaffaaNvzz
import Derived.SizedLaws
import Derived.OpenShut
import Derived.Laws.BytesArg
import Derived.Deep.Slices
/-
  Arguments opened: bytes, a hash, a ref, a node.
-/
namespace Go.Proofs.Ytpiinkfcaoaffaa
open Go.ChangeShapes Go.WideShapes Go.ChangeAt Go.RowKit
theorem laidOut : laidOutB Try.prog = true := by kernel_rfl
theorem cells5 : Try.prog.cellsOf 5 = 1 := by kernel_rfl
theorem bytes5 : Try.prog.bytesOf 5 = 1 := by kernel_rfl
theorem reach4 : reachBytes = 140737488351232 := by decide
theorem view_empty (w : World) (a : Option Addr) (b off n : Nat) (Z : Nat → Int) (h : n = 0) : View w a b off n Z :=
  ⟨fun h' => absurd h' (by omega), fun i hi => absurd hi (by omega), fun i hi => absurd hi (by omega), by omega⟩
theorem oaddr_at {w : World} {a : Addr} {v : Value} (h : w.cell? (a.add 0) = some v) : a = ⟨a.block, a.off, none⟩ := by
  obtain ⟨bl, o, sp⟩ := a
  cases sp with
  | none => rfl
  | some x =>
    exfalso
    have e : (⟨bl, o, some x⟩ : Addr).add 0 = ⟨bl, o, some x⟩ := by unfold Addr.add; simp
    rw [e] at h
    unfold World.cell? at h
    split at h <;> simp at h
/-- bytes -/
theorem open_bytesW {H : Type} {enc : TypeId × Value → H} {W : World} {fuel : Nat} {v : Value} {d : DataW H} {p : List MemPlace}
    (hf : DataW.trod enc Try.prog W 0 (fun _ => true) true fuel 22 [v] = some (d, p)) (hk : ∀ n ∈ d.weights Try.prog 22, n ≤ reachBytes) : ∃ t, Vb W v t := by
  rcases open_ints Try.underlying22 Try.underlying5 cells5 hf with ⟨hcs, hx⟩ | ⟨a, len, cap, zs, hcs, _, hl, hm, hz, hx, hcell, hwz⟩
  · simp only [List.cons.injEq, and_true] at hcs
    subst hcs
    exact ⟨[], none, 0, 0, 0, rfl, view_empty _ _ _ _ _ _ rfl, Nat.le_refl _, fun _ => rfl, by simp⟩
  · simp only [List.cons.injEq, and_true] at hcs
    subst hcs
    simp only [Prod.mk.injEq] at hx
    simp only [if_true] at hz
    have hlen : len ≤ 140737488351232 := by
      have e : (lits (H := H) .u8 (zs.take len)).length = len := by simp [lits]; omega
      have q := hk ((lits (H := H) .u8 (zs.take len)).length * Try.prog.bytesOf 5 + (lits (H := H) .u8 (zs.drop len)).length * Try.prog.bytesOf 5) (by
        rw [hx.1, ← Nat.add_mul]
        simp only [DataW.weights, Try.underlying22]
        exact List.mem_cons_self)
      rw [bytes5, reach4] at q
      omega
    by_cases h0 : 0 < len
    · obtain ⟨b, off, rfl, hc⟩ := ints_at hcell (by omega)
      have bd : ∀ j, 0 ≤ zs.getD j 0 ∧ zs.getD j 0 ≤ 255 := fun j => by
        have := range_u8 hwz j
        simpa [List.getD] using this
      refine ⟨lst len (fun i => (zs.getD i 0).toNat % 256), _, b, off, cap, by rw [lst_len], vw_of ⟨fun _ => rfl, fun i hi => ?_, fun i hi => ?_, by omega⟩, by rw [lst_len]; exact hl, (fun h => by cases h), by rw [lst_len]; exact hlen⟩
      · have c := hc i (by omega)
        rw [c]
        have b1 := bd i
        show some (Value.int .u8 (zs.getD i 0)) = some (Value.int .u8 ((((zs.getD i 0).toNat % 256 : Nat)) : Int))
        congr 2
        omega
      · have := Nat.mod_lt (zs.getD i 0).toNat (show 0 < 256 by decide)
        show 0 ≤ ((((zs.getD i 0).toNat % 256 : Nat)) : Int) ∧ ((((zs.getD i 0).toNat % 256 : Nat)) : Int) ≤ 255
        omega
    · have e0 : len = 0 := by omega
      subst e0
      exact ⟨[], _, 0, 0, cap, rfl, view_empty _ _ _ _ _ _ rfl, by simp, (fun h => by cases h), by simp⟩
set_option maxRecDepth 100000 in
/-- AN ARGUMENT OF BYTES -/
theorem open_bytesA {H : Type} {enc : TypeId × Value → H} {W : World} {base : Nat} {v : Value} {d : DataW H} {p : List MemPlace} (hv : Value.okWide Try.prog W .any base 22 v) (h : DataW.Trod enc Try.prog W 0 (fun _ => true) true 22 v d p) (hk : ∀ n ∈ d.weights Try.prog 22, n ≤ reachBytes) : ∃ t, Vb W v t := by
  obtain ⟨fuel, hf⟩ := h
  obtain ⟨a, n, c, rfl⟩ := okWide_slice Try.underlying22 hv
  exact open_bytesW (by simpa [Value.cells] using hf) hk
theorem wall_mem {H : Type} {P : Program} {e : TypeId} : ∀ {l : List (DataW H)} {d : DataW H}, d ∈ l → ∀ n ∈ d.weights P e, n ∈ DataW.weightsAll P e l
  | x :: l, d, h, n, hn => by
    simp only [DataW.weightsAll, List.mem_append]
    rcases List.mem_cons.1 h with rfl | h
    · exact Or.inl hn
    · exact Or.inr (wall_mem h n hn)
theorem weach_mem {H : Type} {P : Program} : ∀ {ts : List TypeId} {l : List (DataW H)} {i : Nat} {t : TypeId} {d : DataW H}, ts[i]? = some t → l[i]? = some d → ∀ n ∈ d.weights P t, n ∈ DataW.weightsEach P ts l
  | [], _, i, _, _, h, _, _, _ => by simp at h
  | _ :: _, [], i, _, _, _, h, _, _ => by simp at h
  | t0 :: ts, d0 :: l, i, t, d, h1, h2, n, hn => by
    simp only [DataW.weightsEach, List.mem_append]
    cases i with
    | zero =>
      simp at h1 h2
      subst h1 h2
      exact Or.inl hn
    | succ i => exact Or.inr (weach_mem (i := i) (by simpa using h1) (by simpa using h2) n hn)
theorem cells22 : Try.prog.cellsOf 22 = 1 := by kernel_rfl
theorem cells3 : Try.prog.cellsOf 3 = 1 := by kernel_rfl
theorem cells4 : Try.prog.cellsOf 4 = 1 := by kernel_rfl
theorem cells24 : Try.prog.cellsOf 24 = 32 := by kernel_rfl
theorem cells26 : Try.prog.cellsOf 26 = 34 := by kernel_rfl
theorem cells27 : Try.prog.cellsOf 27 = 544 := by kernel_rfl
theorem cells29 : Try.prog.cellsOf 29 = 582 := by kernel_rfl
theorem one_at {cs : List Value} {i : Nat} {v : Value} (h : (cs.drop i).take 1 = [v]) : cs[i]? = some v := by
  have : (cs.drop i)[0]? = some v := by
    cases hd : cs.drop i with
    | nil => rw [hd] at h; cases h
    | cons a t => rw [hd] at h; simp at h; simp [h]
  simpa using this
theorem u8_wf {n : Int} (h : (Lit.int .u8 n).wf = true) : 0 ≤ n ∧ n ≤ 255 := by
  simp [Lit.wf, IntKind.min, IntKind.max, IntKind.bits, IntKind.signed] at h
  exact h
set_option maxRecDepth 100000 in
/-- A HASH -/
theorem open_hash {H : Type} {enc : TypeId × Value → H} {W : World} {fuel : Nat} {cs : List Value} {d : DataW H} {p : List MemPlace} (hf : DataW.trod enc Try.prog W 0 (fun _ => true) true fuel 24 cs = some (d, p)) :
    ∃ s : List Nat, s.length = 32 ∧ (∀ x ∈ s, x < 256) ∧ cs = bv s := by
  obtain ⟨xs, m, rfl, hx, hl, hn, hg⟩ := DataW.trod_array Try.underlying24 hf
  rw [cells24] at hl
  have key : ∀ i, i < 32 → ∃ n : Int, cs[i]? = some (.int .u8 n) ∧ 0 ≤ n ∧ n ≤ 255 := fun i hi => by
    have h1 := hg i hi
    rw [cells5, Nat.mul_one, List.getElem?_eq_getElem (by omega)] at h1
    obtain ⟨n, h2, h3, h4⟩ := DataW.trod_int Try.underlying5 h1
    exact ⟨n, one_at h2, u8_wf h4⟩
  have ch : ∀ i, ∃ n : Nat, n < 256 ∧ (i < 32 → cs[i]? = some (.int .u8 (n : Int))) := fun i => by
    by_cases hi : i < 32
    · obtain ⟨n, h1, h2, h3⟩ := key i hi
      exact ⟨n.toNat, by omega, fun _ => by rw [h1]; congr 2; omega⟩
    · exact ⟨0, by omega, fun h => absurd h hi⟩
  obtain ⟨Y, hY⟩ : ∃ Y : Nat → Nat, ∀ i, Y i < 256 ∧ (i < 32 → cs[i]? = some (.int .u8 (Y i : Int))) := ⟨fun i => (ch i).choose, fun i => (ch i).choose_spec⟩
  refine ⟨lst 32 Y, lst_len _ _, fun x hx => ?_, ?_⟩
  · unfold lst at hx
    obtain ⟨i, -, rfl⟩ := List.mem_map.1 hx
    exact (hY i).1
  · apply List.ext_getElem?
    intro i
    by_cases hi : i < 32
    · rw [(hY i).2 hi, bv_at (by rw [lst_len]; exact hi), lst_gd hi]
    · rw [List.getElem?_eq_none (by omega), List.getElem?_eq_none (by rw [bv_len, lst_len]; omega)]
theorem underRef : ∃ f0 f1 f2 : Field, Try.prog.underlying 26 = some (.struct #[f0, f1, f2]) ∧ (f0.type = 3 ∧ f0.offset = 0) ∧ (f1.type = 24 ∧ f1.offset = 1) ∧ (f2.type = 22 ∧ f2.offset = 33) :=
  ⟨_, _, _, Try.underlying26, ⟨rfl, rfl⟩, ⟨rfl, rfl⟩, rfl, rfl⟩
set_option maxRecDepth 100000 in
/-- A REF -/
theorem open_ref {H : Type} {enc : TypeId × Value → H} {W : World} {fuel : Nat} {cs : List Value} {d : DataW H} {p : List MemPlace} (hf : DataW.trod enc Try.prog W 0 (fun _ => true) true fuel 26 cs = some (d, p)) (hk : ∀ n ∈ d.weights Try.prog 26, n ≤ reachBytes) :
    ∃ (r : Rf) (v : Value), cs = rcs r v ∧ r.W ∧ Vb W v r.b := by
  obtain ⟨f0, f1, f2, hu, ⟨t0, o0⟩, ⟨t1, o1⟩, t2, o2⟩ := underRef
  obtain ⟨xs, n1, rfl, hxy, hcl, hxl, hg⟩ := DataW.trod_struct hu hf
  rw [cells26] at hcl
  match xs, hxl with
  | [y0, y1, y2], _ =>
    have g0 := hg 0 f0 rfl
    have g1 := hg 1 f1 rfl
    have g2 := hg 2 f2 rfl
    rw [t0, o0, cells3] at g0
    rw [t1, o1, cells24] at g1
    rw [t2, o2, cells22] at g2
    simp only [List.getElem?_cons_zero, List.getElem?_cons_succ] at g0 g1 g2
    simp only [Prod.mk.injEq] at hxy
    obtain ⟨k, e0, -, -⟩ := DataW.trod_int Try.underlying3 g0
    obtain ⟨s, s1, s2, e1⟩ := open_hash g1
    obtain ⟨v, e2⟩ : ∃ v, (cs.drop 33).take 1 = [v] := by
      have : (cs.drop 33).length = 1 := by rw [List.length_drop]; omega
      match hd : cs.drop 33, this with
      | [v], _ => exact ⟨v, rfl⟩
    rw [e2] at g2
    obtain ⟨b, hB⟩ := open_bytesW g2 (fun n hn => hk n (by
      rw [hxy.1]
      simp only [DataW.weights, hu]
      exact weach_mem (i := 2) (t := 22) (d := y2.1) (by simp [t2]) (by simp) n hn))
    refine ⟨⟨k, s, b⟩, v, ?_, ⟨s1, s2, ?_⟩, hB⟩
    · have a1 := List.take_append_drop 1 cs
      have a2 := List.take_append_drop 32 (cs.drop 1)
      rw [List.drop_drop, show 1 + 32 = 33 by omega] at a2
      have a3 : cs.drop 33 = [v] := by
        rw [← e2, List.take_of_length_le (by rw [List.length_drop]; omega)]
      rw [List.drop_zero] at e0
      rw [← a1, ← a2, e0, e1, a3]
      rfl
    · obtain ⟨_, _, _, _, _, hv, _⟩ := hB
      exact (vw_ok hv).2
theorem underNode : ∃ f0 f1 f2 f3 f4 f5 : Field, Try.prog.underlying 29 = some (.struct #[f0, f1, f2, f3, f4, f5]) ∧ (f0.type = 3 ∧ f0.offset = 0) ∧ (f1.type = 22 ∧ f1.offset = 1) ∧ (f2.type = 22 ∧ f2.offset = 2) ∧ (f3.type = 4 ∧ f3.offset = 3) ∧ (f4.type = 26 ∧ f4.offset = 4) ∧ (f5.type = 27 ∧ f5.offset = 38) :=
  ⟨_, _, _, _, _, _, Try.underlying29, ⟨rfl, rfl⟩, ⟨rfl, rfl⟩, ⟨rfl, rfl⟩, ⟨rfl, rfl⟩, ⟨rfl, rfl⟩, rfl, rfl⟩
/-- refs one behind the other -/
theorem kcs_of {cs : List Value} : ∀ (m : Nat), cs.length = m * 34 → (∀ i, i < m → ∃ (r : Rf) (v : Value), (cs.drop (i * 34)).take 34 = rcs r v ∧ r.W) → ∀ (Q : Nat → Rf) (u : Nat → Value), (∀ i, i < m → (cs.drop (i * 34)).take 34 = rcs (Q i) (u i)) → cs = kcs ((List.range m).map Q) u := by
  intro m
  induction m generalizing cs with
  | zero => intro hl _ Q u _; exact List.eq_nil_of_length_eq_zero (by omega)
  | succ m ih =>
    intro hl hx Q u hQ
    have h0 := hQ 0 (by omega)
    rw [Nat.zero_mul, List.drop_zero] at h0
    have hd : ∀ i, (cs.drop 34).drop (i * 34) = cs.drop ((i + 1) * 34) := fun i => by rw [List.drop_drop, show 34 + i * 34 = (i + 1) * 34 by omega]
    have h1 := ih (cs := cs.drop 34) (by rw [List.length_drop]; omega) (fun i hi => by rw [hd]; exact hx (i + 1) (by omega)) (fun i => Q (i + 1)) (fun i => u (i + 1)) (fun i hi => by rw [hd]; exact hQ (i + 1) (by omega))
    rw [List.range_succ_eq_map, List.map_cons, kcs, List.map_map]
    have h2 : (List.range m).map (Q ∘ Nat.succ) = (List.range m).map (fun i => Q (i + 1)) := rfl
    rw [h2, ← h1, ← h0, List.take_append_drop]
set_option maxRecDepth 100000 in
/-- A NODE -/
theorem open_node {H : Type} {enc : TypeId × Value → H} {W : World} {fuel : Nat} {cs : List Value} {d : DataW H} {p : List MemPlace} (hf : DataW.trod enc Try.prog W 0 (fun _ => true) true fuel 29 cs = some (d, p)) (hk : ∀ n ∈ d.weights Try.prog 29, n ≤ reachBytes) :
    ∃ (n : Nd) (u : Nv), cs = nc n u ∧ Nin W n u := by
  obtain ⟨f0, f1, f2, f3, f4, f5, hu, ⟨t0, o0⟩, ⟨t1, o1⟩, ⟨t2, o2⟩, ⟨t3, o3⟩, ⟨t4, o4⟩, t5, o5⟩ := underNode
  obtain ⟨xs, n1, rfl, hxy, hcl, hxl, hg⟩ := DataW.trod_struct hu hf
  rw [cells29] at hcl
  match xs, hxl with
  | [y0, y1, y2, y3, y4, y5], _ =>
    have g0 := hg 0 f0 rfl
    have g1 := hg 1 f1 rfl
    have g2 := hg 2 f2 rfl
    have g3 := hg 3 f3 rfl
    have g4 := hg 4 f4 rfl
    have g5 := hg 5 f5 rfl
    rw [t0, o0, cells3] at g0
    rw [t1, o1, cells22] at g1
    rw [t2, o2, cells22] at g2
    rw [t3, o3, cells4] at g3
    rw [t4, o4, cells26] at g4
    rw [t5, o5, cells27] at g5
    simp only [List.getElem?_cons_zero, List.getElem?_cons_succ] at g0 g1 g2 g3 g4 g5
    simp only [Prod.mk.injEq] at hxy
    have hw : ∀ {i : Nat} {t : TypeId} {y : DataW H × List MemPlace}, [f0.type, f1.type, f2.type, f3.type, f4.type, f5.type][i]? = some t → [y0.1, y1.1, y2.1, y3.1, y4.1, y5.1][i]? = some y.1 → ∀ n ∈ y.1.weights Try.prog t, n ≤ reachBytes := fun {i t y} h1 h2 n hn => hk n (by
      rw [hxy.1]
      simp only [DataW.weights, hu]
      exact weach_mem (i := i) (t := t) (d := y.1) h1 h2 n hn)
    have one : ∀ i, i < 582 → ∃ v, (cs.drop i).take 1 = [v] := fun i hi => by
      have : (cs.drop i).length = (582 - i - 1) + 1 := by rw [List.length_drop]; omega
      match hd : cs.drop i, this with
      | v :: t, _ => exact ⟨v, rfl⟩
    obtain ⟨k, e0, -, -⟩ := DataW.trod_int Try.underlying3 g0
    obtain ⟨v1, e1⟩ := one 1 (by omega)
    obtain ⟨v2, e2⟩ := one 2 (by omega)
    rw [e1] at g1
    rw [e2] at g2
    obtain ⟨pt, hP⟩ := open_bytesW g1 (hw (i := 1) (by simp [t1]) (by simp))
    obtain ⟨vl, hV⟩ := open_bytesW g2 (hw (i := 2) (by simp [t2]) (by simp))
    obtain ⟨f, e3, -⟩ := DataW.trod_bool Try.underlying4 g3
    obtain ⟨r, x, e4, rW, hX⟩ := open_ref g4 (hw (i := 4) (by simp [t4]) (by simp))
    obtain ⟨zs, m, hm, hz, hzl, hzn, hzg⟩ := DataW.trod_array Try.underlying27 g5
    rw [cells27] at hzl
    have hk5 : ∀ i (hi : i < zs.length), ∀ n ∈ (zs[i]).1.weights Try.prog 26, n ≤ reachBytes := fun i hi n hn => hw (i := 5) (t := 27) (y := y5) (by simp [t5]) (by simp) n (by
      rw [show y5.1 = _ from congrArg Prod.fst hz]
      simp only [DataW.weights, Try.underlying27]
      exact wall_mem (d := (zs[i]).1) (List.mem_map.2 ⟨zs[i], List.getElem_mem _, rfl⟩) n hn)
    have kd : ∀ i, i < 16 → ∃ (q : Rf) (v : Value), (((cs.drop 38).take 544).drop (i * 34)).take 34 = rcs q v ∧ q.W ∧ Vb W v q.b := fun i hi => by
      have h1 := hzg i hi
      rw [cells26, List.getElem?_eq_getElem (by omega)] at h1
      exact open_ref h1 (hk5 i (by omega))
    have ch : ∀ i, ∃ q : Rf × Value, i < 16 → (((cs.drop 38).take 544).drop (i * 34)).take 34 = rcs q.1 q.2 ∧ q.1.W ∧ Vb W q.2 q.1.b := fun i => by
      by_cases hi : i < 16
      · obtain ⟨q, v, h⟩ := kd i hi
        exact ⟨(q, v), fun _ => h⟩
      · exact ⟨(rz, .bool true), fun h => absurd h hi⟩
    obtain ⟨Q, hQ⟩ : ∃ Q : Nat → Rf × Value, ∀ i, i < 16 → (((cs.drop 38).take 544).drop (i * 34)).take 34 = rcs (Q i).1 (Q i).2 ∧ (Q i).1.W ∧ Vb W (Q i).2 (Q i).1.b := ⟨fun i => (ch i).choose, fun i => (ch i).choose_spec⟩
    have e5 : (cs.drop 38).take 544 = kcs ((List.range 16).map (fun i => (Q i).1)) (fun i => (Q i).2) :=
      kcs_of 16 hzl (fun i hi => ⟨_, _, (hQ i hi).1, (hQ i hi).2.1⟩) (fun i => (Q i).1) (fun i => (Q i).2) (fun i hi => (hQ i hi).1)
    have lt256 : ∀ {v : Value} {s : List Nat}, Vb W v s → ∀ x ∈ s, x < 256 := fun h => by
      obtain ⟨_, _, _, _, _, hv, _⟩ := h
      exact (vw_ok hv).2
    refine ⟨⟨k, pt, vl, f, r, (List.range 16).map (fun i => (Q i).1)⟩, ⟨v1, v2, x, fun i => (Q i).2⟩, ?_, ⟨⟨by simp, rW, fun q hq => ?_, lt256 hP, lt256 hV⟩, hP, hV, hX, fun {i q} hq => ?_⟩⟩
    · have s1 := List.take_append_drop 1 cs
      have s2 := List.take_append_drop 1 (cs.drop 1)
      have s3 := List.take_append_drop 1 (cs.drop 2)
      have s4 := List.take_append_drop 1 (cs.drop 3)
      have s5 := List.take_append_drop 34 (cs.drop 4)
      rw [List.drop_drop] at s2 s3 s4 s5
      have s6 : (cs.drop 38).take 544 = cs.drop 38 := List.take_of_length_le (by rw [List.length_drop]; omega)
      rw [List.drop_zero] at e0
      have s1' : cs = [.int .i64 k] ++ cs.drop 1 := by rw [← e0, s1]
      have s2' : cs.drop 1 = [v1] ++ cs.drop 2 := by rw [← e1, s2]
      have s3' : cs.drop 2 = [v2] ++ cs.drop 3 := by rw [← e2, s3]
      have s4' : cs.drop 3 = [.bool f] ++ cs.drop 4 := by rw [← e3, s4]
      have s5' : cs.drop 4 = rcs r x ++ cs.drop 38 := by rw [← e4, s5]
      rw [s1', s2', s3', s4', s5', ← s6, e5]
      rfl
    · obtain ⟨i, hi, rfl⟩ := List.mem_map.1 hq
      exact (hQ i (by simpa using hi)).2.1
    · have hi : i < 16 := by
        have := (List.getElem?_eq_some_iff.1 hq).1
        simpa using this
      rw [List.getElem?_map, List.getElem?_range hi] at hq
      have hq := Option.some.inj hq
      simp only at hq
      subst hq
      exact (hQ i hi).2.2
theorem okWide_struct {P : Program} {w : World} {r : Reach} {base : Nat} {t : TypeId} {v : Value} {fs : Array Field} (ht : P.underlying t = some (.struct fs)) (h : Value.okWide P w r base t v) : ∃ cs, v = .agg cs ∧ cs.size = P.cellsOf t := by
  unfold Value.okWide at h
  rw [ht] at h
  obtain ⟨cs, h1, h2, _⟩ := h
  exact ⟨cs, h1, h2⟩
set_option maxRecDepth 100000 in
/-- AN ARGUMENT THAT IS A NODE -/
theorem open_nodeA {H : Type} {enc : TypeId × Value → H} {W : World} {base : Nat} {v : Value} {d : DataW H} {p : List MemPlace} (hv : Value.okWide Try.prog W .any base 29 v) (h : DataW.Trod enc Try.prog W 0 (fun _ => true) true 29 v d p) (hk : ∀ n ∈ d.weights Try.prog 29, n ≤ reachBytes) :
    ∃ (n : Nd) (u : Nv), v = .agg (nc n u).toArray ∧ Nin W n u := by
  obtain ⟨f0, f1, f2, f3, f4, f5, hu, -⟩ := underNode
  obtain ⟨cs, rfl, hsz⟩ := okWide_struct hu hv
  obtain ⟨fuel, hf⟩ := h
  simp only [Value.cells] at hf
  obtain ⟨n, u, e, hN⟩ := open_node (cs := cs.toList) hf hk
  refine ⟨n, u, ?_, hN⟩
  rw [← e]
end Go.Proofs.Ytpiinkfcaoaffaa
