/-
  Hashes and registers: as keys, and compared.
-/
import Derived.Test.YthjcndlapelnlaaSr
import Derived.DeepKeys
import Derived.Laws.StructEq
namespace Go.Proofs.Ythjcndlapelnlaa
open Go.RowKit Go.Maps

theorem mapM_some {α β : Type} (f : α → Option β) (g : α → β) : ∀ l : List α, (∀ x ∈ l, f x = some (g x)) → l.mapM f = some (l.map g)
  | [], _ => rfl
  | x :: l, h => by
    rw [List.mapM_cons, h x (by simp), mapM_some f g l (fun y hy => h y (by simp [hy]))]
    rfl
/-- a hash as a value -/
def hA (k : List Nat) : Array Value := (bv k).toArray
def IsH (k : List Nat) : Prop := k.length = 32 ∧ ∀ x ∈ k, x < 256
theorem hA_size {k : List Nat} (h : IsH k) : (hA k).size = 32 := by simp [hA, bv_len, h.1]
theorem hA_cell {k : List Nat} (h : IsH k) : ∀ i, i < 32 → (hA k)[i]? = some (.int .u8 (gd k i : Nat)) := by
  intro i hi
  unfold hA
  rw [List.getElem?_toArray]
  exact bv_at (by rw [h.1]; exact hi)
theorem hA_inj {k k' : List Nat} (h : hA k = hA k') : k = k' := by
  have : bv k = bv k' := by simpa [hA] using h
  unfold bv at this
  exact (List.map_inj_right (fun x y e => by injection e with _ e; omega)).1 this
theorem hA_of {cs : Array Value} {f : Nat → Nat} (h : cs.size = 32) (hc : ∀ i, i < 32 → cs[i]? = some (.int .u8 (f i))) : cs = hA (lst 32 f) := by
  apply Array.ext_getElem?
  intro i
  by_cases hi : i < 32
  · rw [hc i hi]
    unfold hA
    rw [List.getElem?_toArray, bv_at (by rw [lst_len]; exact hi), lst_gd hi]
  · rw [Array.getElem?_eq_none (by omega), Array.getElem?_eq_none (by simp [hA, bv_len, lst_len]; omega)]
theorem isH_lst {f : Nat → Nat} (h : ∀ i, f i < 256) : IsH (lst 32 f) := ⟨lst_len _ _, fun x hx => by
  obtain ⟨i, _, rfl⟩ := List.mem_map.1 hx
  exact h i⟩

def klit (k : List Nat) : Lit := .string (keyBytes (k.map (fun x : Nat => Lit.int .u8 (x : Int))))
theorem wf8 {x : Nat} (h : x < 256) : (Lit.int .u8 (x : Int)).wf = true := by
  simp [Lit.wf, IntKind.min, IntKind.max, IntKind.bits, IntKind.signed]
  omega
theorem c26 : Try.prog.cellsOf 33 = 32 := by kernel_rfl
theorem c5 : Try.prog.cellsOf 5 = 1 := by kernel_rfl
theorem flat_one {α β : Type} (f : α → β) : ∀ l : List α, (l.map (fun i => [f i])).flatten = l.map f
  | [] => rfl
  | x :: l => by simp [flat_one f l]
theorem lits_hash (d : Nat) {k : List Nat} (h : IsH k) : Try.prog.keyLits (d + 2) 33 (bv k) = some (k.map (fun x : Nat => Lit.int .u8 (x : Int))) := by
  unfold Program.keyLits
  rw [Try.underlying33]
  simp only [bv_len, h.1, c26, if_true]
  rw [mapM_some _ (fun i => [Lit.int .u8 ((gd k i : Nat) : Int)]) (List.range 32) ?_]
  · simp only [Option.map_some, Option.some.injEq]
    rw [flat_one]
    conv => rhs; rw [← lst_of k, h.1]
    simp [lst]
  · intro i hi
    have hi' : i < 32 := by simpa using hi
    have e : ((bv k).drop (i * Try.prog.cellsOf 5)).take (Try.prog.cellsOf 5) = [.int .u8 (gd k i : Nat)] := by
      rw [c5, Nat.mul_one]
      have hl : i < (bv k).length := by rw [bv_len, h.1]; exact hi'
      rw [List.drop_eq_getElem_cons hl]
      have h2 := bv_at (s := k) (i := i) (by rw [h.1]; exact hi')
      rw [List.getElem?_eq_getElem hl] at h2
      simp only [List.take_succ_cons, List.take_zero]
      rw [Option.some.inj h2]
    rw [e]
    unfold Program.keyLits
    rw [Try.underlying5]
    simp only [wf8 (gd_lt h.2 i), and_self, if_true]
theorem formed_hash {k : List Nat} (h : IsH k) : (Value.agg (hA k)).formed Try.prog 33 = true := by
  unfold Value.formed
  rw [Try.underlying33, c26]
  show ((hA k).size == 32) = true
  rw [hA_size h]
  rfl
theorem keyType26 : Try.prog.keyType 33 = true := by kernel_rfl
theorem types_two : ∃ d, Try.prog.types.size + 1 = d + 2 := ⟨Try.prog.types.size - 1, by
  have : 1 ≤ Try.prog.types.size := by
    have h : (decide (1 ≤ Try.prog.types.size)) = true := by kernel_rfl
    exact of_decide_eq_true h
  omega⟩
theorem keyOf_hash {k : List Nat} (h : IsH k) : keyOf Try.prog 33 (.agg (hA k)) = some (klit k) := by
  obtain ⟨d, hd⟩ := types_two
  unfold keyOf
  rw [Try.underlying33]
  simp only [keyType26, formed_hash h, Bool.and_self, if_true, hd]
  have : (Value.agg (hA k)).cells.toList = bv k := by simp [Value.cells, hA]
  rw [this, lits_hash d h]
  rfl
theorem keyed : Keyed Try.prog 33 :=
  Keyed.of_law (deep_law_laid (by kernel_rfl) (m := 2) (by decide) (by
    have h : (decide (33 < Try.prog.types.size)) = true := by kernel_rfl
    exact of_decide_eq_true h) (by kernel_rfl) (by rw [Try.underlying33]))
theorem klit_inj {k k' : List Nat} (h : IsH k) (h' : IsH k') (e : klit k = klit k') : k = k' := by
  have := keyed.inj (keyOf_hash h) (e ▸ keyOf_hash h')
  injection this with this
  exact hA_inj this
theorem klit_key {k : List Nat} (h : IsH k) : WideAt.IsKeyLit (klit k) := keyed.key (keyOf_hash h)

set_option maxRecDepth 100000 in
theorem eqH_at (d : Nat) (w : World) (k k' : List Nat) (h : IsH k) (h' : IsH k') : (Op.equalIn (d + 2) 33 (.agg (hA k)) (.agg (hA k'))).run Try.prog w = .ok (decide (k = k')) w := by
  have K : Try.prog.keyTypeAt 2 33 = true := by kernel_rfl
  have c1 : (Value.agg (hA k)).cells.toList = bv k := by simp [Value.cells, hA]
  have c2 : (Value.agg (hA k')).cells.toList = bv k' := by simp [Value.cells, hA]
  obtain ⟨r, hr, hiff⟩ := run_equalIn_deep d 2 33 K w 2 2 (.agg (hA k)) (.agg (hA k')) _ _ (formed_hash h) (formed_hash h') (by rw [c1]; exact lits_hash 0 h) (by rw [c2]; exact lits_hash 0 h')
  rw [hr]
  have e : k = k' ↔ r = true := by
    rw [hiff]
    constructor
    · intro e; rw [e]
    · intro e
      exact (List.map_inj_right (fun x y q => by injection q with _ q; omega)).1 e
  cases r with
  | true => rw [decide_eq_true (e.2 rfl)]
  | false => rw [decide_eq_false (fun q => by cases e.1 q)]
theorem eqH_any (w : World) (k k' : List Nat) (h : IsH k) (h' : IsH k') : (Op.equalIn 10000 33 (.agg (hA k)) (.agg (hA k'))).run Try.prog w = .ok (decide (k = k')) w := eqH_at 9998 w k k' h h'

theorem isH_z32 : IsH z32 := ⟨z32_len, fun x hx => by
  have := List.eq_of_mem_replicate hx
  omega⟩
theorem ihash_len {k : List Nat} (h : IsH k) : (bv k).toArray.size = 32 := by simp [bv_len, h.1]
set_option maxRecDepth 100000 in
/-- two registers are one: the same counter, the same tag -/
theorem eqR_at (d : Nat) (w : World) (c c' : Int) (t t' : List Nat) (h : IsH t) (h' : IsH t') : (Op.equalIn (d + 3) 39 (.agg (rgc c t).toArray) (.agg (rgc c' t').toArray)).run Try.prog w = .ok (decide (c = c') && decide (t = t')) w := by
  have hf : Try.prog.underlying 39 = some (.struct (Try.prog.fieldsOf 39)) := by kernel_rfl
  have hfs : (Try.prog.fieldsOf 39).toList.map (fun f => (f.name, f.type, f.offset)) = [("Count", 2, 0), ("Tag", 33, 1)] := by kernel_rfl
  rw [run_equalIn_struct w (d + 2) 39 _ _ hf (by kernel_rfl)]
  obtain ⟨f1, f2, ef⟩ : ∃ f1 f2, (Try.prog.fieldsOf 39).toList = [f1, f2] := by
    match hl : (Try.prog.fieldsOf 39).toList with
    | [] => rw [hl] at hfs; cases hfs
    | [_] => rw [hl] at hfs; simp at hfs
    | [f1, f2] => exact ⟨f1, f2, rfl⟩
    | _ :: _ :: _ :: _ => rw [hl] at hfs; simp at hfs
  rw [ef] at hfs ⊢
  simp only [List.map_cons, List.map_nil, List.cons.injEq, Prod.mk.injEq, and_true] at hfs
  obtain ⟨⟨n1, t1, o1⟩, n2, t2, o2⟩ := hfs
  have p1 : ∀ (c : Int) (t : List Nat), (part 2 (rgc c t).toArray 0).run Try.prog w = .ok (.int .i64 c) w := fun c t => by
    simp [part, rgc]
  have p2 : ∀ (c : Int) (t : List Nat), IsH t → (part 33 (rgc c t).toArray 1).run Try.prog w = .ok (.agg (hA t)) w := fun c t h => by
    have e := run_part_deep (P := Try.prog) (w := w) (e := 33) (D := 2) (off := 1) (xs := (rgc c t).toArray) (la := t.map (fun x : Nat => Lit.int .u8 (x : Int))) (by
      have : (((rgc c t).toArray.toList.drop 1).take (Try.prog.cellsOf 33)) = bv t := by
        rw [c26]
        simp only [rgc, List.drop_succ_cons, List.drop_zero]
        rw [List.take_of_length_le (by rw [bv_len, h.1]; exact Nat.le_refl _)]
      rw [this]
      exact lits_hash 0 h)
    obtain ⟨a, ha, hfm, hc⟩ := e
    rw [ha]
    have hc' : a.cells.toList = bv t := by
      rw [hc, c26]
      simp only [rgc, List.drop_succ_cons, List.drop_zero]
      rw [List.take_of_length_le (by rw [bv_len, h.1]; exact Nat.le_refl _)]
    unfold Value.formed at hfm
    cases a <;> simp only [Try.underlying33] at hfm <;> try (cases hfm; done)
    rename_i cs
    have : cs = hA t := by
      apply Array.toList_inj.1
      simpa [Value.cells, hA] using hc'
    rw [this]
  have q2 : (Op.equalIn (d + 2) 33 (.agg (hA t)) (.agg (hA t'))).run Try.prog w = .ok (decide (t = t')) w := eqH_at d w t t' h h'
  have q1 : (Op.equalIn (d + 2) 2 (.int .i64 c) (.int .i64 c')).run Try.prog w = .ok (c == c') w := run_equalIn_int w (d + 1) 2 .i64 .i64 c c' Try.underlying2
  have a1 := p1 c t
  have a2 := p1 c' t'
  have b1 := p2 c t h
  have b2 := p2 c' t' h'
  revert a1 a2 b1 b2
  generalize (rgc c t).toArray = X
  generalize (rgc c' t').toArray = Y
  intro a1 a2 b1 b2
  have N1 : f1.name ≠ "_" := by rw [n1]; decide
  have N2 : f2.name ≠ "_" := by rw [n2]; decide
  clear p1 p2 hf ef
  obtain ⟨U, hU⟩ : ∃ U, U = Value.agg (hA t) := ⟨_, rfl⟩
  obtain ⟨V, hV⟩ : ∃ V, V = Value.agg (hA t') := ⟨_, rfl⟩
  rw [← hU, ← hV] at q2
  rw [← hU] at b1
  rw [← hV] at b2
  clear hU hV
  revert q2
  generalize decide (t = t') = B
  intro q2
  simp only [Op.eqFields, if_pos N1, if_pos N2, t1, t2, o1, o2, Sem.run_bind, a1, a2, q1, Result.andThen_ok]
  cases hB : (c == c') with
  | true =>
    have e : c = c' := by simpa using hB
    rw [if_neg (by decide), Sem.run_bind, b1, Result.andThen_ok, Sem.run_bind, b2, Result.andThen_ok, Sem.run_bind, q2, Result.andThen_ok, decide_eq_true e]
    cases B
    · rw [if_pos (by decide), Sem.run_pure]
      rfl
    · rw [if_neg (by decide), Sem.run_pure]
      rfl
  | false =>
    have e : ¬ c = c' := by simpa using hB
    rw [if_pos (by decide), Sem.run_pure, decide_eq_false e]
    rfl
theorem eqR_any (w : World) (c c' : Int) (t t' : List Nat) (h : IsH t) (h' : IsH t') : (Op.equalIn 10000 39 (.agg (rgc c t).toArray) (.agg (rgc c' t').toArray)).run Try.prog w = .ok (decide (c = c') && decide (t = t')) w := eqR_at 9997 w c c' t t' h h'
end Go.Proofs.Ythjcndlapelnlaa
