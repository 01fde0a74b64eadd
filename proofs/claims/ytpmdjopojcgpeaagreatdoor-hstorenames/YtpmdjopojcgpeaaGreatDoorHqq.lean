import Derived.Test.YtpmdjopojcgpeaaGreatDoorLmq
import Derived.Deep.Matrix
import Derived.DeepKeys
import Derived.Laws.StructEq
/-
  media.registerMayBe, choicesMayBe.
-/
namespace Go.Proofs.YtpmdjopojcgpeaaGreatDoor
open Go.RowKit

/-- a choice as data -/
structure Cho where
  k : Int
  n : Int
  m : Int
def Cho.cells (c : Cho) : List Value := [.int .i64 c.k, .int .i64 c.n, .int .i64 c.m]
def Cho.ok (c : Cho) : Bool := decide (0 ≤ c.k ∧ c.k < 8 ∧ 0 ≤ c.n ∧ 0 ≤ c.m)
def Cho.in64 (c : Cho) : Prop := (-9223372036854775808 ≤ c.k ∧ c.k ≤ 9223372036854775807) ∧ (-9223372036854775808 ≤ c.n ∧ c.n ≤ 9223372036854775807) ∧ (-9223372036854775808 ≤ c.m ∧ c.m ≤ 9223372036854775807)
/-- THE VALUE v IS A LIST OF THE CHOICES C. -/
def Chs (w : World) (v : Value) (C : List Cho) : Prop :=
  ∃ (a : Option Addr) (b off c : Nat), v = .slice a C.length c ∧ (0 < C.length → a = some ⟨b, off, none⟩) ∧ (∀ (i : Nat) (x : Cho), C[i]? = some x → w.rangeAt b (off + i * 3) x.cells) ∧ C.length ≤ c ∧ (a = none → c = 0) ∧ C.length ≤ 5864062014464
theorem Chs.keep {w w' : World} {v : Value} {C : List Cho} (h : Chs w v C) (k : Below w.heap.size w w') : Chs w' v C := by
  obtain ⟨a, b, off, c, e, h1, h2, r⟩ := h
  exact ⟨a, b, off, c, e, h1, fun i x hx => rng_keep (h2 i x hx) k, r⟩
def chsB (C : List Cho) : Bool := C.all Cho.ok && decide (C.length ≤ 4096)

set_option maxRecDepth 100000 in
set_option maxHeartbeats 1600000 in
theorem choices_any {w : World} {v : Value} {C : List Cho} (h : Chs w v C) :
    Calls Tryz.prog 85 #[v] w fun e w' => e = .returned (.bool (chsB C)) ∧ Below w.heap.size w w' := by
  obtain ⟨a, b, off, c, rfl, h1, h2, h3, h4, h5⟩ := h
  have HC : Hid ((0 < C.length → a = some ⟨b, off, none⟩) ∧ (∀ (i : Nat) (x : Cho), C[i]? = some x → w.rangeAt b (off + i * 3) x.cells)) := ⟨h1, h2⟩
  obtain ⟨n, en⟩ : ∃ n, n = C.length := ⟨_, rfl⟩
  have HN : Hid (n = C.length) := en
  rw [← en] at HC h3 h5 ⊢
  clear h1 h2 en
  go_enter Tryz.func85, Tryz.ntmps85
  go_wp2_with fail
  go_loopg [7] n (fun g i wr => ∃ k : Nat, k ≤ n ∧ g = n - k ∧ i = .int .i64 k ∧ (∀ j x, j < k → C[j]? = some x → x.ok = true) ∧ Below w.heap.size w wr)
  case atStart => exact ⟨0, Nat.zero_le _, rfl, rfl, fun j x hj => absurd hj (by omega), Below.refl _ _⟩
  case round =>
    obtain ⟨k, hk, rfl, rfl, hok, hb⟩ := hrel
    have HO : Hid ((∀ j x, j < k → C[j]? = some x → x.ok = true) ∧ Below w.heap.size w wr) := ⟨hok, hb⟩
    clear hok hb
    by_cases hkn : k < n
    · have i1 : (k : Int) < (n : Int) := by omega
      obtain rfl := HC.out.1 (by omega)
      obtain ⟨x, hx⟩ : ∃ x, C[k]? = some x := ⟨_, List.getElem?_eq_getElem (by have := HN.out; omega)⟩
      have hr := rng_keep (HC.out.2 k x hx) HO.out.2
      have HX : Hid (C[k]? = some x) := hx
      have HR : Hid (wr.rangeAt b (off + k * 3) [.int .i64 x.k, .int .i64 x.n, .int .i64 x.m]) := hr
      have HB : Hid (Below w.heap.size w (wr.alloc (.cells #[.int .i64 x.k, .int .i64 x.n, .int .i64 x.m] 152))) := HO.out.2.alloc HO.out.2.size _
      clear hx hr
      have HOK : Hid (x.ok = decide (0 ≤ x.k ∧ x.k < 8 ∧ 0 ≤ x.n ∧ 0 ≤ x.m)) := rfl
      obtain ⟨xk, xn, xm⟩ := x
      have r0 : wr.cell? ⟨b, off + k * 3, none⟩ = some (.int .i64 xk) := (rng_head HR.out).1
      have r1 : wr.cell? ⟨b, off + k * 3 + 1, none⟩ = some (.int .i64 xn) := (rng_head (rng_head HR.out).2).1
      have r2 : wr.cell? ⟨b, off + k * 3 + 2, none⟩ = some (.int .i64 xm) := (rng_head (rng_head (rng_head HR.out).2).2).1
      simp only at HOK HB HR r0 r1 r2
      by_cases hgood : 0 ≤ xk ∧ xk < 8 ∧ 0 ≤ xn ∧ 0 ≤ xm
      · have HG : Hid ((⟨xk, xn, xm⟩ : Cho).ok = true) := by rw [HOK.out]; exact decide_eq_true hgood
        obtain ⟨g1, g2, g3, g4⟩ := hgood
        go_wp2_with fail
        go_roundg (n - (k + 1))
        case measure => omega
        case rel => exact ⟨k + 1, by omega, rfl, by go_num, fun j x hj hx => by by_cases e : j = k; (subst e; rw [HX.out] at hx; cases hx; exact HG.out); exact HO.out.1 j x (by omega) hx, HB.out⟩
      · have HG : Hid (chsB C = false) := by
          show chsB C = false
          unfold chsB
          have : C.all Cho.ok = false := by
            rw [List.all_eq_false]
            exact ⟨_, List.mem_of_getElem? HX.out, by rw [HOK.out, decide_eq_false hgood]; decide⟩
          rw [this]
          rfl
        have hc : ¬ 0 ≤ xk ∨ (0 ≤ xk ∧ ¬ xk < 8) ∨ (0 ≤ xk ∧ xk < 8 ∧ ¬ 0 ≤ xn) ∨ (0 ≤ xk ∧ xk < 8 ∧ 0 ≤ xn ∧ ¬ 0 ≤ xm) := by omega
        clear hgood
        rcases hc with g1 | ⟨g1, g2⟩ | ⟨g1, g2, g3⟩ | ⟨g1, g2, g3, g4⟩
        all_goals
          go_wp2_with fail
          go_ret
          exact ⟨by rw [HG.out]; rfl, HB.out⟩
    · have i1 : ¬ (k : Int) < (n : Int) := by omega
      have HG : Hid (chsB C = decide ((n : Int) ≤ 4096)) := by
        show chsB C = decide ((n : Int) ≤ 4096)
        unfold chsB
        have : C.all Cho.ok = true := by
          rw [List.all_eq_true]
          intro x hx
          obtain ⟨j, hj, e⟩ := List.getElem_of_mem hx
          exact HO.out.1 j x (by have := HN.out; omega) (by rw [← e]; exact List.getElem?_eq_getElem hj)
        rw [this, Bool.true_and]
        exact decide_eq_decide.2 (by have := HN.out; omega)
      go_wp2_with fail
      go_ret
      exact ⟨by rw [HG.out]; rfl, HO.out.2⟩
end Go.Proofs.YtpmdjopojcgpeaaGreatDoor

/-
  Hashes and registers: as keys, and compared.
-/
namespace Go.Proofs.YtpmdjopojcgpeaaGreatDoor
open Go.RowKit Go.Maps

theorem mapM_some {α β : Type} (f : α → Option β) (g : α → β) : ∀ l : List α, (∀ x ∈ l, f x = some (g x)) → l.mapM f = some (l.map g)
  | [], _ => rfl
  | x :: l, h => by
    rw [List.mapM_cons, h x (by simp), mapM_some f g l (fun y hy => h y (by simp [hy]))]
    rfl
/-- a hash as a value -/
def hA (k : List Nat) : Array Value := (bv k).toArray
def IsH (k : List Nat) : Prop := k.length = 32 ∧ ∀ x ∈ k, x < 256
theorem hA_size {k : List Nat} (h : IsH k) : (hA k).size = 32 := by simp [hA, bv_len, h.1]
theorem hA_cell {k : List Nat} (h : IsH k) : ∀ i, i < 32 → (hA k)[i]? = some (.int .u8 (gd k i : Nat)) := by
  intro i hi
  unfold hA
  rw [List.getElem?_toArray]
  exact bv_at (by rw [h.1]; exact hi)
theorem hA_inj {k k' : List Nat} (h : hA k = hA k') : k = k' := by
  have : bv k = bv k' := by simpa [hA] using h
  unfold bv at this
  exact (List.map_inj_right (fun x y e => by injection e with _ e; omega)).1 this
theorem hA_of {cs : Array Value} {f : Nat → Nat} (h : cs.size = 32) (hc : ∀ i, i < 32 → cs[i]? = some (.int .u8 (f i))) : cs = hA (lst 32 f) := by
  apply Array.ext_getElem?
  intro i
  by_cases hi : i < 32
  · rw [hc i hi]
    unfold hA
    rw [List.getElem?_toArray, bv_at (by rw [lst_len]; exact hi), lst_gd hi]
  · rw [Array.getElem?_eq_none (by omega), Array.getElem?_eq_none (by simp [hA, bv_len, lst_len]; omega)]
theorem isH_lst {f : Nat → Nat} (h : ∀ i, f i < 256) : IsH (lst 32 f) := ⟨lst_len _ _, fun x hx => by
  obtain ⟨i, _, rfl⟩ := List.mem_map.1 hx
  exact h i⟩

def klit (k : List Nat) : Lit := .string (keyBytes (k.map (fun x : Nat => Lit.int .u8 (x : Int))))
theorem wf8 {x : Nat} (h : x < 256) : (Lit.int .u8 (x : Int)).wf = true := by
  simp [Lit.wf, IntKind.min, IntKind.max, IntKind.bits, IntKind.signed]
  omega
theorem c26 : Tryz.prog.cellsOf 38 = 32 := by kernel_rfl
theorem c5 : Tryz.prog.cellsOf 5 = 1 := by kernel_rfl
theorem flat_one {α β : Type} (f : α → β) : ∀ l : List α, (l.map (fun i => [f i])).flatten = l.map f
  | [] => rfl
  | x :: l => by simp [flat_one f l]
theorem lits_hash (d : Nat) {k : List Nat} (h : IsH k) : Tryz.prog.keyLits (d + 2) 38 (bv k) = some (k.map (fun x : Nat => Lit.int .u8 (x : Int))) := by
  unfold Program.keyLits
  rw [Tryz.underlying38]
  simp only [bv_len, h.1, c26, if_true]
  rw [mapM_some _ (fun i => [Lit.int .u8 ((gd k i : Nat) : Int)]) (List.range 32) ?_]
  · simp only [Option.map_some, Option.some.injEq]
    rw [flat_one]
    conv => rhs; rw [← lst_of k, h.1]
    simp [lst]
  · intro i hi
    have hi' : i < 32 := by simpa using hi
    have e : ((bv k).drop (i * Tryz.prog.cellsOf 5)).take (Tryz.prog.cellsOf 5) = [.int .u8 (gd k i : Nat)] := by
      rw [c5, Nat.mul_one]
      have hl : i < (bv k).length := by rw [bv_len, h.1]; exact hi'
      rw [List.drop_eq_getElem_cons hl]
      have h2 := bv_at (s := k) (i := i) (by rw [h.1]; exact hi')
      rw [List.getElem?_eq_getElem hl] at h2
      simp only [List.take_succ_cons, List.take_zero]
      rw [Option.some.inj h2]
    rw [e]
    unfold Program.keyLits
    rw [Tryz.underlying5]
    simp only [wf8 (gd_lt h.2 i), and_self, if_true]
theorem formed_hash {k : List Nat} (h : IsH k) : (Value.agg (hA k)).formed Tryz.prog 38 = true := by
  unfold Value.formed
  rw [Tryz.underlying38, c26]
  show ((hA k).size == 32) = true
  rw [hA_size h]
  rfl
theorem keyType26 : Tryz.prog.keyType 38 = true := by kernel_rfl
theorem types_two : ∃ d, Tryz.prog.types.size + 1 = d + 2 := ⟨Tryz.prog.types.size - 1, by
  have : 1 ≤ Tryz.prog.types.size := by
    have h : (decide (1 ≤ Tryz.prog.types.size)) = true := by kernel_rfl
    exact of_decide_eq_true h
  omega⟩
theorem keyOf_hash {k : List Nat} (h : IsH k) : keyOf Tryz.prog 38 (.agg (hA k)) = some (klit k) := by
  obtain ⟨d, hd⟩ := types_two
  unfold keyOf
  rw [Tryz.underlying38]
  simp only [keyType26, formed_hash h, Bool.and_self, if_true, hd]
  have : (Value.agg (hA k)).cells.toList = bv k := by simp [Value.cells, hA]
  rw [this, lits_hash d h]
  rfl
theorem keyed : Keyed Tryz.prog 38 :=
  Keyed.of_law (deep_law_laid (by kernel_rfl) (m := 2) (by decide) (by
    have h : (decide (38 < Tryz.prog.types.size)) = true := by kernel_rfl
    exact of_decide_eq_true h) (by kernel_rfl) (by rw [Tryz.underlying38]))
theorem klit_inj {k k' : List Nat} (h : IsH k) (h' : IsH k') (e : klit k = klit k') : k = k' := by
  have := keyed.inj (keyOf_hash h) (e ▸ keyOf_hash h')
  injection this with this
  exact hA_inj this
theorem klit_key {k : List Nat} (h : IsH k) : WideAt.IsKeyLit (klit k) := keyed.key (keyOf_hash h)

set_option maxRecDepth 100000 in
theorem eqH_at (d : Nat) (w : World) (k k' : List Nat) (h : IsH k) (h' : IsH k') : (Op.equalIn (d + 2) 38 (.agg (hA k)) (.agg (hA k'))).run Tryz.prog w = .ok (decide (k = k')) w := by
  have K : Tryz.prog.keyTypeAt 2 38 = true := by kernel_rfl
  have c1 : (Value.agg (hA k)).cells.toList = bv k := by simp [Value.cells, hA]
  have c2 : (Value.agg (hA k')).cells.toList = bv k' := by simp [Value.cells, hA]
  obtain ⟨r, hr, hiff⟩ := run_equalIn_deep d 2 38 K w 2 2 (.agg (hA k)) (.agg (hA k')) _ _ (formed_hash h) (formed_hash h') (by rw [c1]; exact lits_hash 0 h) (by rw [c2]; exact lits_hash 0 h')
  rw [hr]
  have e : k = k' ↔ r = true := by
    rw [hiff]
    constructor
    · intro e; rw [e]
    · intro e
      exact (List.map_inj_right (fun x y q => by injection q with _ q; omega)).1 e
  cases r with
  | true => rw [decide_eq_true (e.2 rfl)]
  | false => rw [decide_eq_false (fun q => by cases e.1 q)]
theorem eqH_any (w : World) (k k' : List Nat) (h : IsH k) (h' : IsH k') : (Op.equalIn 10000 38 (.agg (hA k)) (.agg (hA k'))).run Tryz.prog w = .ok (decide (k = k')) w := eqH_at 9998 w k k' h h'

theorem isH_z32 : IsH z32 := ⟨z32_len, fun x hx => by
  have := List.eq_of_mem_replicate hx
  omega⟩
theorem ihash_len {k : List Nat} (h : IsH k) : (bv k).toArray.size = 32 := by simp [bv_len, h.1]
set_option maxRecDepth 100000 in
/-- two registers are one: the same counter, the same tag -/
theorem eqR_at (d : Nat) (w : World) (c c' : Int) (t t' : List Nat) (h : IsH t) (h' : IsH t') : (Op.equalIn (d + 3) 66 (.agg (rgc c t).toArray) (.agg (rgc c' t').toArray)).run Tryz.prog w = .ok (decide (c = c') && decide (t = t')) w := by
  have hf : Tryz.prog.underlying 66 = some (.struct (Tryz.prog.fieldsOf 66)) := by kernel_rfl
  have hfs : (Tryz.prog.fieldsOf 66).toList.map (fun f => (f.name, f.type, f.offset)) = [("Count", 2, 0), ("Tag", 38, 1)] := by kernel_rfl
  rw [run_equalIn_struct w (d + 2) 66 _ _ hf (by kernel_rfl)]
  obtain ⟨f1, f2, ef⟩ : ∃ f1 f2, (Tryz.prog.fieldsOf 66).toList = [f1, f2] := by
    match hl : (Tryz.prog.fieldsOf 66).toList with
    | [] => rw [hl] at hfs; cases hfs
    | [_] => rw [hl] at hfs; simp at hfs
    | [f1, f2] => exact ⟨f1, f2, rfl⟩
    | _ :: _ :: _ :: _ => rw [hl] at hfs; simp at hfs
  rw [ef] at hfs ⊢
  simp only [List.map_cons, List.map_nil, List.cons.injEq, Prod.mk.injEq, and_true] at hfs
  obtain ⟨⟨n1, t1, o1⟩, n2, t2, o2⟩ := hfs
  have p1 : ∀ (c : Int) (t : List Nat), (part 2 (rgc c t).toArray 0).run Tryz.prog w = .ok (.int .i64 c) w := fun c t => by
    simp [part, rgc]
  have p2 : ∀ (c : Int) (t : List Nat), IsH t → (part 38 (rgc c t).toArray 1).run Tryz.prog w = .ok (.agg (hA t)) w := fun c t h => by
    have e := run_part_deep (P := Tryz.prog) (w := w) (e := 38) (D := 2) (off := 1) (xs := (rgc c t).toArray) (la := t.map (fun x : Nat => Lit.int .u8 (x : Int))) (by
      have : (((rgc c t).toArray.toList.drop 1).take (Tryz.prog.cellsOf 38)) = bv t := by
        rw [c26]
        simp only [rgc, List.drop_succ_cons, List.drop_zero]
        rw [List.take_of_length_le (by rw [bv_len, h.1]; exact Nat.le_refl _)]
      rw [this]
      exact lits_hash 0 h)
    obtain ⟨a, ha, hfm, hc⟩ := e
    rw [ha]
    have hc' : a.cells.toList = bv t := by
      rw [hc, c26]
      simp only [rgc, List.drop_succ_cons, List.drop_zero]
      rw [List.take_of_length_le (by rw [bv_len, h.1]; exact Nat.le_refl _)]
    unfold Value.formed at hfm
    cases a <;> simp only [Tryz.underlying38] at hfm <;> try (cases hfm; done)
    rename_i cs
    have : cs = hA t := by
      apply Array.toList_inj.1
      simpa [Value.cells, hA] using hc'
    rw [this]
  have q2 : (Op.equalIn (d + 2) 38 (.agg (hA t)) (.agg (hA t'))).run Tryz.prog w = .ok (decide (t = t')) w := eqH_at d w t t' h h'
  have q1 : (Op.equalIn (d + 2) 2 (.int .i64 c) (.int .i64 c')).run Tryz.prog w = .ok (c == c') w := run_equalIn_int w (d + 1) 2 .i64 .i64 c c' Tryz.underlying2
  have a1 := p1 c t
  have a2 := p1 c' t'
  have b1 := p2 c t h
  have b2 := p2 c' t' h'
  revert a1 a2 b1 b2
  generalize (rgc c t).toArray = X
  generalize (rgc c' t').toArray = Y
  intro a1 a2 b1 b2
  have N1 : f1.name ≠ "_" := by rw [n1]; decide
  have N2 : f2.name ≠ "_" := by rw [n2]; decide
  clear p1 p2 hf ef
  obtain ⟨U, hU⟩ : ∃ U, U = Value.agg (hA t) := ⟨_, rfl⟩
  obtain ⟨V, hV⟩ : ∃ V, V = Value.agg (hA t') := ⟨_, rfl⟩
  rw [← hU, ← hV] at q2
  rw [← hU] at b1
  rw [← hV] at b2
  clear hU hV
  revert q2
  generalize decide (t = t') = B
  intro q2
  simp only [Op.eqFields, if_pos N1, if_pos N2, t1, t2, o1, o2, Sem.run_bind, a1, a2, q1, Result.andThen_ok]
  cases hB : (c == c') with
  | true =>
    have e : c = c' := by simpa using hB
    rw [if_neg (by decide), Sem.run_bind, b1, Result.andThen_ok, Sem.run_bind, b2, Result.andThen_ok, Sem.run_bind, q2, Result.andThen_ok, decide_eq_true e]
    cases B
    · rw [if_pos (by decide), Sem.run_pure]
      rfl
    · rw [if_neg (by decide), Sem.run_pure]
      rfl
  | false =>
    have e : ¬ c = c' := by simpa using hB
    rw [if_pos (by decide), Sem.run_pure, decide_eq_false e]
    rfl
theorem eqR_any (w : World) (c c' : Int) (t t' : List Nat) (h : IsH t) (h' : IsH t') : (Op.equalIn 10000 66 (.agg (rgc c t).toArray) (.agg (rgc c' t').toArray)).run Tryz.prog w = .ok (decide (c = c') && decide (t = t')) w := eqR_at 9997 w c c' t t' h h'
end Go.Proofs.YtpmdjopojcgpeaaGreatDoor
