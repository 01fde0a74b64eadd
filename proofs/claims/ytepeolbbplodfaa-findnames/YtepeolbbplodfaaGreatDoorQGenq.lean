import Derived.Test.YtepeolbbplodfaaGreatDoorQSumMq
import Derived.DeepKeys
import Derived.Test.YtepeolbbplodfaaGreatDoorQMemq
import Derived.Test.YtepeolbbplodfaaGreatDoorQRMixq
import Derived.Laws.IdiomStrings
import Derived.Lib.QuietBelow
import Derived.Deep.RegionLaw
import Derived.Deep.RegionHeld3
/-
  Two hashes that are one.
-/
namespace Go.Proofs.YtepeolbbplodfaaGreatDoor.Dg
open Go.BigFrame

theorem mapM_some {α β : Type} (f : α → Option β) (g : α → β) : ∀ l : List α, (∀ x ∈ l, f x = some (g x)) → l.mapM f = some (l.map g)
  | [], _ => rfl
  | x :: l, h => by
    rw [List.mapM_cons, h x (by simp), mapM_some f g l (fun y hy => h y (by simp [hy]))]
    rfl
theorem lits26 (cs : Array Value) (f : Nat → Nat) (hs : cs.size = 32) (hc : ∀ i, i < 32 → cs[i]? = some (.int .u8 (f i))) (hf : ∀ i, f i < 256) :
    Tryz.prog.keyLits 2 31 cs.toList = some (((List.range 32).map (fun i => [Lit.int .u8 (f i)])).flatten) := by
  have c26 : Tryz.prog.cellsOf 31 = 32 := by kernel_rfl
  have c5 : Tryz.prog.cellsOf 5 = 1 := by kernel_rfl
  unfold Program.keyLits
  rw [Tryz.underlying31]
  simp only [Array.length_toList, hs, c26, if_true]
  rw [mapM_some _ (fun i => [Lit.int .u8 (f i)]) (List.range 32) ?_]
  · rfl
  · intro i hi
    have hi' : i < 32 := by simpa using hi
    have e : (cs.toList.drop (i * Tryz.prog.cellsOf 5)).take (Tryz.prog.cellsOf 5) = [.int .u8 (f i)] := by
      rw [c5, Nat.mul_one]
      have h2 := hc i hi'
      rw [Array.getElem?_eq_getElem (by omega)] at h2
      rw [List.drop_eq_getElem_cons (by simp; omega)]
      simp only [List.take_succ_cons, List.take_zero, Array.getElem_toList]
      rw [Option.some.inj h2]
    rw [e]
    unfold Program.keyLits
    rw [Tryz.underlying5]
    have wf : (Lit.int .u8 (f i)).wf = true := by
      have := hf i
      simp [Lit.wf, IntKind.min, IntKind.max, IntKind.bits, IntKind.signed]
      omega
    simp only [wf, and_self, if_true]
theorem eq_hash (w : World) (cs : Array Value) (f : Nat → Nat) (hs : cs.size = 32) (hc : ∀ i, i < 32 → cs[i]? = some (.int .u8 (f i))) (hf : ∀ i, f i < 256) :
    (Op.equalIn 10000 31 (.agg cs) (.agg cs)).run Tryz.prog w = .ok true w := by
  have K : Tryz.prog.keyTypeAt 2 31 = true := by kernel_rfl
  have c26 : Tryz.prog.cellsOf 31 = 32 := by kernel_rfl
  have fm : (Value.agg cs).formed Tryz.prog 31 = true := by
    unfold Value.formed
    rw [Tryz.underlying31, c26]
    show (cs.size == 32) = true
    rw [hs]
    rfl
  have kl := lits26 cs f hs hc hf
  obtain ⟨r, hr, hiff⟩ := run_equalIn_deep 9998 2 31 K w 2 2 (.agg cs) (.agg cs) _ _ fm fm kl kl
  rw [hiff.2 rfl] at hr
  exact hr
theorem eq_hashA (w : World) (s : W8) : (Op.equalIn 10000 31 (.agg (hashA s)) (.agg (hashA s))).run Tryz.prog w = .ok true w :=
  eq_hash w _ (hb s) (hashA_size s) (hashA_cell s) (fun _ => Nat.mod_lt _ (by decide))
theorem eq_Z32 (w : World) : (Op.equalIn 10000 31 (.agg Z32) (.agg Z32)).run Tryz.prog w = .ok true w :=
  eq_hash w _ (fun _ => 0) rfl (fun i hi => by rw [Z32_rep, Array.getElem?_replicate, if_pos hi]; rfl) (fun _ => by decide)

section
variable {P : Program}
theorem wpList_load_cells_g {ops : Array Oper} {rest : List Oper} {o : Oper} {a : Act} {w : World} {Q : Exit → Act → World → Prop} (hgd : Region.wanted o (yielded ops a.tmps) = true) (ty : TypeId) (x : Operand) (ho : o.op = .load ty x)
    (g : Nat) (hx : a.eval x = .pointer (some ⟨g, 0, none⟩)) (cs : Array Value) (d : TypeDesc) (hc : ∀ j, j < cs.size → w.cell? ⟨g, j, none⟩ = cs[j]?)
    (hu : P.underlying ty = some d) (hd : (match d with | .struct _ | .array _ _ => true | _ => false) = true) (hi : (P.info? ty).map (·.size) = some cs.size)
    (h : wpList P ops Q rest (a.put o.dst (.agg cs)) w) : wpList P ops Q (o :: rest) a w := by
  refine wpList_want hgd fun K hK => ?_
  unfold Oper.wp execOp
  simp only [ho, hx, Instr.loadAt, Instr.sureAddr, Sem.run_bind, Sem.run_pure, Result.andThen_ok, run_loadVar_cells w g ty cs d hc hu hd hi]
  exact hK _ _ h
end
end Go.Proofs.YtepeolbbplodfaaGreatDoor.Dg

/-
  Notes in memory: a map by hashes, each element a list of strings that rises.
-/
namespace Go.Proofs.YtepeolbbplodfaaGreatDoor.Dg
open Go.RowKit Go.Maps

def nilS : Value := .slice none 0 0
def holdR (v : Value) : Option (DataW Value × List MemPlace) := some (.held v, [])
/-- a hash as a value -/
def hA (k : List Nat) : Array Value := (bv k).toArray
def IsH (k : List Nat) : Prop := k.length = 32 ∧ ∀ x ∈ k, x < 256
theorem hA_size {k : List Nat} (h : IsH k) : (hA k).size = 32 := by simp [hA, bv_len, h.1]
theorem hA_cell {k : List Nat} (h : IsH k) : ∀ i, i < 32 → (hA k)[i]? = some (.int .u8 (gd k i : Nat)) := by
  intro i hi
  unfold hA
  rw [List.getElem?_toArray]
  exact bv_at (by rw [h.1]; exact hi)
theorem hA_inj {k k' : List Nat} (h : hA k = hA k') : k = k' := by
  have : bv k = bv k' := by simpa [hA] using h
  unfold bv at this
  exact (List.map_inj_right (fun x y e => by injection e with _ e; omega)).1 this
theorem hA_of {cs : Array Value} {f : Nat → Nat} (h : cs.size = 32) (hc : ∀ i, i < 32 → cs[i]? = some (.int .u8 (f i))) : cs = hA (lst 32 f) := by
  apply Array.ext_getElem?
  intro i
  by_cases hi : i < 32
  · rw [hc i hi]
    unfold hA
    rw [List.getElem?_toArray, bv_at (by rw [lst_len]; exact hi), lst_gd hi]
  · rw [Array.getElem?_eq_none (by omega), Array.getElem?_eq_none (by simp [hA, bv_len, lst_len]; omega)]
theorem isH_lst {f : Nat → Nat} (h : ∀ i, f i < 256) : IsH (lst 32 f) := ⟨lst_len _ _, fun x hx => by
  obtain ⟨i, _, rfl⟩ := List.mem_map.1 hx
  exact h i⟩

def klit (k : List Nat) : Lit := .string (keyBytes (k.map (fun x : Nat => Lit.int .u8 (x : Int))))
theorem wf8 {x : Nat} (h : x < 256) : (Lit.int .u8 (x : Int)).wf = true := by
  simp [Lit.wf, IntKind.min, IntKind.max, IntKind.bits, IntKind.signed]
  omega
theorem c26 : Tryz.prog.cellsOf 31 = 32 := by kernel_rfl
theorem c5 : Tryz.prog.cellsOf 5 = 1 := by kernel_rfl
theorem flat_one {α β : Type} (f : α → β) : ∀ l : List α, (l.map (fun i => [f i])).flatten = l.map f
  | [] => rfl
  | x :: l => by simp [flat_one f l]
theorem lits_hash (d : Nat) {k : List Nat} (h : IsH k) : Tryz.prog.keyLits (d + 2) 31 (bv k) = some (k.map (fun x : Nat => Lit.int .u8 (x : Int))) := by
  unfold Program.keyLits
  rw [Tryz.underlying31]
  simp only [bv_len, h.1, c26, if_true]
  rw [mapM_some _ (fun i => [Lit.int .u8 ((gd k i : Nat) : Int)]) (List.range 32) ?_]
  · simp only [Option.map_some, Option.some.injEq]
    rw [flat_one]
    conv => rhs; rw [← lst_of k, h.1]
    simp [lst]
  · intro i hi
    have hi' : i < 32 := by simpa using hi
    have e : ((bv k).drop (i * Tryz.prog.cellsOf 5)).take (Tryz.prog.cellsOf 5) = [.int .u8 (gd k i : Nat)] := by
      rw [c5, Nat.mul_one]
      have hl : i < (bv k).length := by rw [bv_len, h.1]; exact hi'
      rw [List.drop_eq_getElem_cons hl]
      have h2 := bv_at (s := k) (i := i) (by rw [h.1]; exact hi')
      rw [List.getElem?_eq_getElem hl] at h2
      simp only [List.take_succ_cons, List.take_zero]
      rw [Option.some.inj h2]
    rw [e]
    unfold Program.keyLits
    rw [Tryz.underlying5]
    simp only [wf8 (gd_lt h.2 i), and_self, if_true]
theorem formed_hash {k : List Nat} (h : IsH k) : (Value.agg (hA k)).formed Tryz.prog 31 = true := by
  unfold Value.formed
  rw [Tryz.underlying31, c26]
  show ((hA k).size == 32) = true
  rw [hA_size h]
  rfl
theorem keyType26 : Tryz.prog.keyType 31 = true := by kernel_rfl
theorem types_two : ∃ d, Tryz.prog.types.size + 1 = d + 2 := ⟨Tryz.prog.types.size - 1, by
  have : 1 ≤ Tryz.prog.types.size := by
    have h : (decide (1 ≤ Tryz.prog.types.size)) = true := by kernel_rfl
    exact of_decide_eq_true h
  omega⟩
theorem keyOf_hash {k : List Nat} (h : IsH k) : keyOf Tryz.prog 31 (.agg (hA k)) = some (klit k) := by
  obtain ⟨d, hd⟩ := types_two
  unfold keyOf
  rw [Tryz.underlying31]
  simp only [keyType26, formed_hash h, Bool.and_self, if_true, hd]
  have : (Value.agg (hA k)).cells.toList = bv k := by simp [Value.cells, hA]
  rw [this, lits_hash d h]
  rfl
theorem keyed : Keyed Tryz.prog 31 :=
  Keyed.of_law (deep_law_laid (by kernel_rfl) (m := 2) (by decide) (by
    have h : (decide (31 < Tryz.prog.types.size)) = true := by kernel_rfl
    exact of_decide_eq_true h) (by kernel_rfl) (by rw [Tryz.underlying31]))
theorem klit_inj {k k' : List Nat} (h : IsH k) (h' : IsH k') (e : klit k = klit k') : k = k' := by
  have := keyed.inj (keyOf_hash h) (e ▸ keyOf_hash h')
  injection this with this
  exact hA_inj this
theorem klit_key {k : List Nat} (h : IsH k) : WideAt.IsKeyLit (klit k) := keyed.key (keyOf_hash h)

theorem mapM_all {α β : Type} (f : α → Option β) : ∀ (l : List α) (r : List β), l.mapM f = some r → ∀ x ∈ l, ∃ y, f x = some y
  | [], _, _ => by simp
  | a :: l, r, h => by
    rw [List.mapM_cons] at h
    simp only [bind, Option.bind_eq_some_iff, pure, Option.some.injEq] at h
    obtain ⟨y, hy, ys, hys, _⟩ := h
    intro x hx
    rcases List.mem_cons.1 hx with rfl | hx
    · exact ⟨y, hy⟩
    · exact mapM_all f l ys hys x hx
theorem u8_of_wf {n : Int} (h : (Lit.int .u8 n).wf = true) : 0 ≤ n ∧ n < 256 := by
  simp [Lit.wf, IntKind.min, IntKind.max, IntKind.bits, IntKind.signed] at h
  omega
set_option maxRecDepth 100000 in
theorem key_inv {v : Value} {l : Lit} (h : keyOf Tryz.prog 31 v = some l) : ∃ k, IsH k ∧ v = .agg (hA k) ∧ l = klit k := by
  obtain ⟨d, hd⟩ := types_two
  have h0 := h
  unfold keyOf at h
  rw [Tryz.underlying31] at h
  simp only [keyType26, Bool.true_and] at h
  split at h
  · rename_i hf
    unfold Value.formed at hf
    cases v <;> simp only [Tryz.underlying31] at hf <;> try (cases hf; done)
    rename_i cs
    rw [c26] at hf
    have hs : cs.size = 32 := by simpa using hf
    rw [hd] at h
    cases hl : Tryz.prog.keyLits (d + 2) 31 (Value.agg cs).cells.toList with
    | none => rw [hl] at h; cases h
    | some ls =>
      have hl' := hl
      unfold Program.keyLits at hl
      rw [Tryz.underlying31] at hl
      simp only [Value.cells, Array.length_toList, hs, c26, if_true] at hl
      cases hm : (List.range 32).mapM fun i => Tryz.prog.keyLits (d + 1) 5 ((cs.toList.drop (i * Tryz.prog.cellsOf 5)).take (Tryz.prog.cellsOf 5)) with
      | none => rw [hm] at hl; cases hl
      | some r =>
        have ha := mapM_all _ _ _ hm
        have cell : ∀ i, i < 32 → ∃ x : Nat, x < 256 ∧ cs[i]? = some (.int .u8 (x : Int)) := by
          intro i hi
          obtain ⟨y, hy⟩ := ha i (by simpa using hi)
          rw [c5, Nat.mul_one] at hy
          have hil : i < cs.toList.length := by simp; omega
          rw [List.drop_eq_getElem_cons hil] at hy
          simp only [List.take_succ_cons, List.take_zero] at hy
          unfold Program.keyLits at hy
          rw [Tryz.underlying5] at hy
          have e : cs[i]? = some cs.toList[i] := by rw [← List.getElem?_eq_getElem hil]; simp
          cases hv : cs.toList[i] <;> rw [hv] at hy <;> simp only [] at hy <;> try (cases hy; done)
          rename_i q m
          split at hy
          · rename_i hq
            obtain ⟨rfl, hw⟩ := hq
            have := u8_of_wf hw
            refine ⟨m.toNat, by omega, ?_⟩
            rw [e, hv, Int.toNat_of_nonneg this.1]
          · cases hy
        have hch : ∀ i, ∃ x : Nat, x < 256 ∧ (i < 32 → cs[i]? = some (.int .u8 (x : Int))) := fun i => by
          by_cases hi : i < 32
          · obtain ⟨x, h1, h2⟩ := cell i hi
            exact ⟨x, h1, fun _ => h2⟩
          · exact ⟨0, by decide, fun k => absurd k hi⟩
        obtain ⟨f, hf2⟩ := Classical.axiomOfChoice hch
        have e := hA_of hs (fun i hi => (hf2 i).2 hi)
        have hk : IsH (lst 32 f) := isH_lst (fun i => (hf2 i).1)
        refine ⟨lst 32 f, hk, by rw [e], ?_⟩
        rw [e, keyOf_hash hk] at h0
        exact (Option.some.inj h0).symm
  · cases h

theorem own_ne_cells {w : World} {base e size n : Nat} {v : Value} {xs : List Value} (h : w.ownsRow base e size v n xs) {g : Nat} {cs : Array Value} {t : TypeId} {fz : Nat × Nat} (hg : w.heap[g]? = some (.cells cs t fz)) (ht : t ≠ e) : v.ownBlock ≠ some g := by
  intro k
  rcases h.2 with ⟨rfl, _⟩ | ⟨g', cap, cur, rfl, _, hg', _⟩
  · simp [Value.ownBlock] at k
  · simp only [Value.ownBlock, Option.some.injEq] at k
    subst k
    rw [hg] at hg'
    injection hg' with hg'
    injection hg' with _ h2
    exact ht h2
theorem own_ne_map {w : World} {base e size n : Nat} {v : Value} {xs : List Value} (h : w.ownsRow base e size v n xs) {H : Type} {P : Program} {kt : TypeId} {R : Value → Option (DataW H × List MemPlace)} {b m : Nat} {D : DataW H} (hm : w.ownsMap P kt R b m D) : v.ownBlock ≠ some b := by
  intro k
  obtain ⟨es, clock, hg, _⟩ := hm
  rcases h.2 with ⟨rfl, _⟩ | ⟨g', cap, cur, rfl, _, hg', _⟩
  · simp [Value.ownBlock] at k
  · simp only [Value.ownBlock, Option.some.injEq] at k
    subst k
    rw [hg] at hg'
    injection hg' with hg'
    cases hg'
theorem own_block {w : World} {base e size n : Nat} {v : Value} {xs : List Value} (h : w.ownsRow base e size v n xs) {g : Nat} (hv : v.ownBlock = some g) : ∃ cur, w.heap[g]? = some (.cells cur e (0, 0)) := by
  rcases h.2 with ⟨rfl, _⟩ | ⟨g', cap, cur, rfl, _, hg', _⟩
  · simp [Value.ownBlock] at hv
  · simp only [Value.ownBlock, Option.some.injEq] at hv
    subst hv
    exact ⟨cur, hg'⟩

/-- NOTES: the map in block bm, all blocks among F's. -/
structure NotesX (w : World) (bm : Nat) (F : Nat → Prop) (κ : List Nat → List Nat) (L : List (List Nat)) (D : DataW Value) (V : List Nat → Value) (n : Nat) : Prop where
  ris : Ris L
  map : w.ownsMap Tryz.prog 31 holdR bm n D
  room : n ≤ L.length
  foot : F bm
  val : ∀ k, IsH k → D.atKey (klit k) (.held nilS) = .held (V k)
  has : ∀ k, IsH k → (Maps.has D (klit k) = true ↔ grp κ L k ≠ [])
  row : ∀ k, IsH k → ∃ xs, w.ownsRow 0 33 1 (V k) (grp κ L k).length xs ∧ Strs w F xs (grp κ L k)
  rfoot : ∀ k g, IsH k → (V k).ownBlock = some g → F g
  apart : ∀ k k' g, IsH k → IsH k' → (V k).ownBlock = some g → (V k').ownBlock = some g → k = k'
  cnt : Maps.size D ≤ L.length ∧ (Maps.size D = L.length ↔ Lone κ L)
  key : ∀ s ∈ L, IsH (κ s)
def Notes (w : World) (bm : Nat) (F : Nat → Prop) (κ : List Nat → List Nat) (L : List (List Nat)) : Prop := ∃ D V n, NotesX w bm F κ L D V n

theorem NotesX.turn {w w' : World} {bm : Nat} {F G : Nat → Prop} {κ : List Nat → List Nat} {L : List (List Nat)} {D : DataW Value} {V : List Nat → Value} {n : Nat} (h : NotesX w bm F κ L D V n) (t : Turn G w w') (hd : ∀ i, F i → i < w.heap.size → ¬ G i) : NotesX w' bm F κ L D V n :=
  { h with
    map := map_turn h.map t (hd bm h.foot h.map.lt)
    row := fun k hk => by
      obtain ⟨xs, h1, h2⟩ := h.row k hk
      exact ⟨xs, own_turn h1 t (fun g hg => hd g (h.rfoot k g hk hg) (h1.lt g hg).2), h2.imp (fun u _ s hs => hs.turn t hd)⟩ }
theorem Notes.turn {w w' : World} {bm : Nat} {F G : Nat → Prop} {κ : List Nat → List Nat} {L : List (List Nat)} (h : Notes w bm F κ L) (t : Turn G w w') (hd : ∀ i, F i → i < w.heap.size → ¬ G i) : Notes w' bm F κ L := by
  obtain ⟨D, V, n, h⟩ := h
  exact ⟨D, V, n, h.turn t hd⟩
theorem NotesX.mono {w : World} {bm : Nat} {F G : Nat → Prop} {κ : List Nat → List Nat} {L : List (List Nat)} {D : DataW Value} {V : List Nat → Value} {n : Nat} (h : NotesX w bm F κ L D V n) (hd : ∀ i, F i → G i) : NotesX w bm G κ L D V n :=
  { h with
    foot := hd _ h.foot
    row := fun k hk => by
      obtain ⟨xs, h1, h2⟩ := h.row k hk
      exact ⟨xs, h1, h2.imp (fun u _ s hs => hs.mono hd)⟩
    rfoot := fun k g hk hg => hd _ (h.rfoot k g hk hg) }

/-- a new map holds no notes -/
theorem notes_new (w : World) (κ : List Nat → List Nat) : Notes (w.alloc (.map #[] 0)) w.heap.size (fun i => i = w.heap.size) κ [] :=
  ⟨.map [], fun _ => nilS, 0, {
    ris := List.Pairwise.nil
    map := World.ownsMap_made w _ _ _
    room := Nat.le_refl _
    foot := rfl
    val := fun k _ => rfl
    has := fun k _ => by simp [Maps.has, grp]
    row := fun k _ => ⟨[], World.ownsRow_nil _ _ _ _, .nil⟩
    rfoot := fun k g _ hg => by simp [nilS, Value.ownBlock] at hg
    apart := fun k k' g _ _ hg => by simp [nilS, Value.ownBlock] at hg
    cnt := ⟨Nat.le_refl _, fun _ => List.Pairwise.nil, fun _ => rfl⟩
    key := by simp }⟩

/-- A NEW STRING IS NOTED: its row has turned or is new, then the map has. -/
theorem NotesX.store {w w2 w3 : World} {bm : Nat} {F F' : Nat → Prop} {κ : List Nat → List Nat} {L : List (List Nat)} {D : DataW Value} {V : List Nat → Value} {n : Nat} {s : List Nat} {v' : Value} {xs' : List Value} (h : NotesX w bm F κ L D V n) (hs : s ∉ L) (hk : IsH (κ s))
    (hF : ∀ i, F i → F' i) (hnew : ∀ i, w.heap.size ≤ i → i < w3.heap.size → F' i)
    (t : Turn (fun i => (V (κ s)).ownBlock = some i) w w2) (own : w2.ownsRow 0 33 1 v' ((grp κ L (κ s)).length + 1) xs') (strs : Strs w2 F' xs' (ins s (grp κ L (κ s))))
    (vf : v'.ownBlock = (V (κ s)).ownBlock ∨ ∃ g, v'.ownBlock = some g ∧ w.heap.size ≤ g)
    (m : w3.ownsMap Tryz.prog 31 holdR bm (n + 1) (D.put (klit (κ s)) (.held v'))) (g3 : w2.grownBy w3 (some bm)) :
    NotesX w3 bm F' κ (ins s L) (D.put (klit (κ s)) (.held v')) (fun k => if k = κ s then v' else V k) (n + 1) := by
  have hsg : s ∉ grp κ L (κ s) := fun k => hs (mem_grp.1 k).1
  obtain ⟨xk, ok, sk⟩ := h.row (κ s) hk
  have m2 : w2.ownsMap Tryz.prog 31 holdR bm n D := map_turn h.map t (own_ne_map ok h.map)
  have t3 : Turn (fun i => i = bm) w2 w3 := Turn.of_grown g3 (fun k e => (Option.some.inj e).symm)
  have str2 : ∀ u t', Str w F u t' → Str w2 F u t' := fun u t' hu => ⟨own_turn hu.own t (fun g hg e => by
      obtain ⟨cur, hc⟩ := own_block ok e
      exact own_ne_cells hu.own hc (by decide) hg), hu.foot, hu.ok⟩
  have str3 : ∀ {G : Nat → Prop} u t', Str w2 G u t' → Str w3 G u t' := fun u t' hu => ⟨own_turn hu.own t3 (fun g hg e => own_ne_map hu.own m2 (e ▸ hg)), hu.foot, hu.ok⟩
  have own3 : ∀ {v : Value} {q : Nat} {ys : List Value}, w2.ownsRow 0 33 1 v q ys → w3.ownsRow 0 33 1 v q ys := fun hv => own_turn hv t3 (fun g hg e => own_ne_map hv m2 (e ▸ hg))
  have hlen := ins_length hs
  have hput : ∀ k, IsH k → k ≠ κ s → klit k ≠ klit (κ s) := fun k hk' hne e => hne (klit_inj hk' hk e)
  have hblk : ∀ k g, IsH k → k ≠ κ s → (V k).ownBlock = some g → v'.ownBlock = some g → False := fun k g hk' hne h1 h2 => by
    rcases vf with e | ⟨g', e, hg'⟩
    · exact hne (h.apart k (κ s) g hk' hk h1 (e ▸ h2))
    · rw [e] at h2
      obtain ⟨ys, oy, _⟩ := h.row k hk'
      have := (oy.lt g h1).2
      have := Option.some.inj h2
      omega
  refine { ris := ris_ins h.ris, map := m, room := by rw [hlen]; have := h.room; omega, foot := hF _ h.foot, val := fun k hk' => ?_, has := fun k hk' => ?_, row := fun k hk' => ?_, rfoot := fun k g hk' hg => ?_, apart := fun k k' g hk1 hk2 h1 h2 => ?_, cnt := ?_, key := fun x hx => ?_ }
  · by_cases e : k = κ s
    · subst e
      rw [if_pos rfl, atKey_put_same h.map.isMap (klit_key hk)]
    · rw [if_neg e, atKey_put_other (hput k hk' e)]
      exact h.val k hk'
  · rw [grp_ins h.ris]
    by_cases e : k = κ s
    · subst e
      rw [if_pos rfl, has_put_same h.map.isMap (klit_key hk)]
      refine ⟨fun _ c => ?_, fun _ => rfl⟩
      have : s ∈ ins s (grp κ L (κ s)) := mem_ins.2 (Or.inl rfl)
      rw [c] at this
      simp at this
    · rw [if_neg (fun q => e q.symm), has_put_other (hput k hk' e)]
      exact h.has k hk'
  · rw [grp_ins h.ris]
    by_cases e : k = κ s
    · subst e
      rw [if_pos rfl, if_pos rfl, ins_length hsg]
      exact ⟨xs', own3 own, strs.imp (fun u _ t' hu => str3 u t' hu)⟩
    · rw [if_neg e, if_neg (fun q : κ s = k => e q.symm)]
      obtain ⟨ys, oy, sy⟩ := h.row k hk'
      refine ⟨ys, own3 (own_turn oy t (fun g hg q => e (h.apart k (κ s) g hk' hk hg q))), sy.imp (fun u _ t' hu => (str3 u t' (str2 u t' hu)).mono hF)⟩
  · by_cases e : k = κ s
    · rw [if_pos e] at hg
      rcases vf with q | ⟨g', q, hg'⟩
      · exact hF _ (h.rfoot (κ s) g hk (q ▸ hg))
      · have hlt := ((own3 own).lt g hg).2
        rw [q] at hg
        exact hnew g (by have := Option.some.inj hg; omega) hlt
    · rw [if_neg e] at hg
      exact hF _ (h.rfoot k g hk' hg)
  · by_cases e1 : k = κ s
    · by_cases e2 : k' = κ s
      · rw [e1, e2]
      · rw [if_pos e1] at h1
        rw [if_neg e2] at h2
        exact (hblk k' g hk2 e2 h2 h1).elim
    · by_cases e2 : k' = κ s
      · rw [if_neg e1] at h1
        rw [if_pos e2] at h2
        exact (hblk k g hk1 e1 h1 h2).elim
      · rw [if_neg e1] at h1
        rw [if_neg e2] at h2
        exact h.apart k k' g hk1 hk2 h1 h2
  · rw [hlen]
    have hc := h.cnt
    by_cases e : grp κ L (κ s) = []
    · have hn : Maps.has D (klit (κ s)) = false := by
        cases q : Maps.has D (klit (κ s)) with
        | false => rfl
        | true => exact absurd e ((h.has _ hk).1 q)
      rw [size_put (h.map.tidy keyed), hn, lone_ins_new e]
      simp only [Bool.false_eq_true, if_false]
      refine ⟨by omega, ?_⟩
      rw [← hc.2]
      omega
    · have hn := (h.has _ hk).2 e
      rw [size_put (h.map.tidy keyed), hn]
      simp only [if_true]
      refine ⟨by omega, fun q => by omega, fun q => ?_⟩
      cases hg : grp κ L (κ s) with
      | nil => exact absurd hg e
      | cons x r =>
        have hx : x ∈ grp κ L (κ s) := by rw [hg]; simp
        obtain ⟨hx1, hx2⟩ := mem_grp.1 hx
        exact absurd q (not_lone_of (mem_ins.2 (Or.inr hx1)) (mem_ins.2 (Or.inl rfl)) (fun c => hs (c ▸ hx1)) hx2)
  · rcases mem_ins.1 hx with rfl | hx
    · exact hk
    · exact h.key x hx
end Go.Proofs.YtepeolbbplodfaaGreatDoor.Dg

/-
  The sum of given bytes, reckoned by the kernel.
-/
namespace Go.Proofs.YtepeolbbplodfaaGreatDoor.Dg

/-- n is reckoned first -/
def now {α : Type} (n : Nat) (k : Nat → α) : α := match n with | 0 => k 0 | m + 1 => k (m + 1)
theorem now_eq {α : Type} (n : Nat) (k : Nat → α) : now n k = k n := by cases n <;> rfl

/-- a round: the words, the next sixteen of the schedule -/
def eround (k a b c d e f g h w : Nat) {α : Type} (r : Nat → Nat → α) : α :=
  now (((((h + big1 e) % M + pick e f g) % M + k) % M + w) % M) fun x => now ((x + (big0 a + most a b c) % M) % M) fun a' => now ((d + x) % M) fun e' => r a' e'
/-- the rest of the rounds: W holds the next sixteen words -/
def erounds : List Nat → List Nat → Nat → Nat → Nat → Nat → Nat → Nat → Nat → Nat → W8
  | k :: ks, w0 :: w1 :: w2 :: w3 :: w4 :: w5 :: w6 :: w7 :: w8 :: w9 :: w10 :: w11 :: w12 :: w13 :: w14 :: w15 :: r, a, b, c, d, e, f, g, h =>
    now (wnew w14 w9 w1 w0) fun w16 =>
      eround k a b c d e f g h w0 fun a' e' => erounds ks (w1 :: w2 :: w3 :: w4 :: w5 :: w6 :: w7 :: w8 :: w9 :: w10 :: w11 :: w12 :: w13 :: w14 :: w15 :: w16 :: r) a' a b c e' e f g
  | _, _, a, b, c, d, e, f, g, h => ⟨a, b, c, d, e, f, g, h⟩

theorem erounds_step (k : Nat) (ks : List Nat) (w0 w1 w2 w3 w4 w5 w6 w7 w8 w9 w10 w11 w12 w13 w14 w15 : Nat) (s : W8) :
    erounds (k :: ks) [w0, w1, w2, w3, w4, w5, w6, w7, w8, w9, w10, w11, w12, w13, w14, w15] s.a s.b s.c s.d s.e s.f s.g s.h =
      erounds ks [w1, w2, w3, w4, w5, w6, w7, w8, w9, w10, w11, w12, w13, w14, w15, wnew w14 w9 w1 w0] (turn1 s k w0).a (turn1 s k w0).b (turn1 s k w0).c (turn1 s k w0).d (turn1 s k w0).e (turn1 s k w0).f (turn1 s k w0).g (turn1 s k w0).h := by
  rw [erounds, now_eq]
  unfold eround
  rw [now_eq, now_eq, now_eq]
  rfl

/-- the sixteen words from t on -/
def win (B : Nat → Nat) (t : Nat) : List Nat := [sched B t, sched B (t + 1), sched B (t + 2), sched B (t + 3), sched B (t + 4), sched B (t + 5), sched B (t + 6), sched B (t + 7), sched B (t + 8), sched B (t + 9), sched B (t + 10), sched B (t + 11), sched B (t + 12), sched B (t + 13), sched B (t + 14), sched B (t + 15)]

theorem erounds_turns (B : Nat → Nat) (s : W8) : ∀ (ks : List Nat) (t : Nat), (∀ i, i < ks.length → ks[i]? = some (K (t + i))) →
    erounds ks (win B t) (turns K (sched B) s t).a (turns K (sched B) s t).b (turns K (sched B) s t).c (turns K (sched B) s t).d (turns K (sched B) s t).e (turns K (sched B) s t).f (turns K (sched B) s t).g (turns K (sched B) s t).h = turns K (sched B) s (t + ks.length)
  | [], t, _ => by
    rw [erounds]
    · rfl
    · intro k ks' w0 w1 w2 w3 w4 w5 w6 w7 w8 w9 w10 w11 w12 w13 w14 w15 r h
      cases h
  | k :: ks, t, h => by
    have hk : k = K t := by
      have := h 0 (by simp)
      simpa using this
    unfold win
    rw [erounds_step]
    have e : wnew (sched B (t + 14)) (sched B (t + 9)) (sched B (t + 1)) (sched B t) = sched B (t + 16) := by
      rw [sched_high B (t := t + 16) (by omega)]
      rfl
    rw [e, hk]
    have ih := erounds_turns B s ks (t + 1) (fun i hi => by
      have := h (i + 1) (by simp; omega)
      rw [List.getElem?_cons_succ] at this
      rw [this, show t + (i + 1) = t + 1 + i by omega])
    have e2 : t + 1 + ks.length = t + (k :: ks).length := by simp; omega
    rw [e2] at ih
    rw [hk] at ih
    exact ih

def ewords : List Nat → List Nat
  | x0 :: x1 :: x2 :: x3 :: r => now (((x0 <<< 24 ||| x1 <<< 16) ||| x2 <<< 8) ||| x3) fun w => w :: ewords r
  | _ => []
/-- one block of bytes, given as a list -/
def eb (s : W8) (l : List Nat) : W8 :=
  match s with
  | ⟨a, b, c, d, e, f, g, h⟩ =>
    match erounds KL (ewords l) a b c d e f g h with
    | ⟨a', b', c', d', e', f', g', h'⟩ =>
      now ((a + a') % M) fun a => now ((b + b') % M) fun b => now ((c + c') % M) fun c => now ((d + d') % M) fun d => now ((e + e') % M) fun e => now ((f + f') % M) fun f => now ((g + g') % M) fun g => now ((h + h') % M) fun h => ⟨a, b, c, d, e, f, g, h⟩
def ego (T : Nat → Nat) : Nat → Nat → W8 → W8
  | 0, _, s => s
  | f + 1, k, s => ego T f (k + 1) (eb s ((List.range 64).map (fun i => T (64 * k + i))))

theorem range64 : List.range 64 = [0, 1, 2, 3, 4, 5, 6, 7, 8, 9, 10, 11, 12, 13, 14, 15, 16, 17, 18, 19, 20, 21, 22, 23, 24, 25, 26, 27, 28, 29, 30, 31, 32, 33, 34, 35, 36, 37, 38, 39, 40, 41, 42, 43, 44, 45, 46, 47, 48, 49, 50, 51, 52, 53, 54, 55, 56, 57, 58, 59, 60, 61, 62, 63] := by decide
theorem ewords_win (B : Nat → Nat) : ewords ((List.range 64).map B) = win B 0 := by
  rw [range64]
  simp only [List.map_cons, List.map_nil, ewords, now_eq]
  unfold win
  rw [sched_low B (show 0 < 16 by decide), sched_low B (show 0 + 1 < 16 by decide), sched_low B (show 0 + 2 < 16 by decide), sched_low B (show 0 + 3 < 16 by decide), sched_low B (show 0 + 4 < 16 by decide), sched_low B (show 0 + 5 < 16 by decide), sched_low B (show 0 + 6 < 16 by decide), sched_low B (show 0 + 7 < 16 by decide), sched_low B (show 0 + 8 < 16 by decide), sched_low B (show 0 + 9 < 16 by decide), sched_low B (show 0 + 10 < 16 by decide), sched_low B (show 0 + 11 < 16 by decide), sched_low B (show 0 + 12 < 16 by decide), sched_low B (show 0 + 13 < 16 by decide), sched_low B (show 0 + 14 < 16 by decide), sched_low B (show 0 + 15 < 16 by decide)]
  rfl
theorem KL_get : ∀ i, i < KL.length → KL[i]? = some (K (0 + i)) := by
  intro i hi
  rw [Nat.zero_add, List.getElem?_eq_getElem hi]
  unfold K
  rw [List.getD_eq_getElem?_getD, List.getElem?_eq_getElem hi]
  rfl
theorem eb_eq (s : W8) (B : Nat → Nat) : eb s ((List.range 64).map B) = fold1 s B := by
  have h := erounds_turns B s KL 0 KL_get
  rw [← ewords_win B] at h
  have h2 : erounds KL (ewords ((List.range 64).map B)) s.a s.b s.c s.d s.e s.f s.g s.h = turns K (sched B) s 64 := h
  unfold eb fold1
  rw [← h2]
  cases s
  simp only [now_eq, plus]
theorem ego_folds (T : Nat → Nat) : ∀ f k, ego T f k (folds T k) = folds T (k + f)
  | 0, _ => rfl
  | f + 1, k => by
    rw [ego, eb_eq, show k + (f + 1) = k + 1 + f by omega]
    exact ego_folds T f (k + 1)
theorem folds_ego (T : Nat → Nat) (k : Nat) : folds T k = ego T k 0 H0 := by
  have := ego_folds T k 0
  rw [Nat.zero_add] at this
  exact this.symm

def L2 : List Nat := [97, 98, 99]
def L3 : List Nat := [97, 98, 99, 100, 98, 99, 100, 101, 99, 100, 101, 102, 100, 101, 102, 103, 101, 102, 103, 104, 102, 103, 104, 105, 103, 104, 105, 106, 104, 105, 106, 107, 105, 106, 107, 108, 106, 107, 108, 109, 107, 108, 109, 110, 108, 109, 110, 111, 109, 110, 111, 112, 110, 111, 112, 113]
theorem known0 : ego (cat 0 (fun _ => 0) (padb 0)) 1 0 H0 = ⟨0xe3b0c442, 0x98fc1c14, 0x9afbf4c8, 0x996fb924, 0x27ae41e4, 0x649b934c, 0xa495991b, 0x7852b855⟩ := by kernel_rfl
theorem known1 : ego (cat 3 (fun i => L2.getD i 0) (padb 3)) 1 0 H0 = ⟨0xba7816bf, 0x8f01cfea, 0x414140de, 0x5dae2223, 0xb00361a3, 0x96177a9c, 0xb410ff61, 0xf20015ad⟩ := by kernel_rfl
theorem known2 : ego (cat 56 (fun i => L3.getD i 0) (padb 56)) 2 0 H0 = ⟨0x248d6a61, 0xd20638b8, 0xe5c02693, 0x0c3e6039, 0xa33ce459, 0x64ff2167, 0xf6ecedd4, 0x19db06c1⟩ := by kernel_rfl
theorem known3 : ego (cat 1000 (fun _ => 97) (padb 1000)) 16 0 H0 = ⟨0x41edece4, 0x2d63e8d9, 0xbf515a9b, 0xa6932e1c, 0x20cbc9f5, 0xa5d13464, 0x5adb5db1, 0xb9737ea3⟩ := by kernel_rfl
end Go.Proofs.YtepeolbbplodfaaGreatDoor.Dg

/-
  What all laws of mac lean on: the tables, a hash in a block of its own, the sum of one list.
-/
namespace Go.Proofs.YtepeolbbplodfaaGreatDoor.Dg
open Go.RowKit Go.Sort

/-- all that the program keeps -/
structure Ground (w : World) : Prop where
  first : First w
  roots : Roots w
  big : 2 < w.heap.size
theorem Ground.below {w w' : World} (h : Ground w) (hb : Below w.heap.size w w') : Ground w' :=
  ⟨h.first.below hb (by have := h.big; omega), h.roots.below hb h.big, Nat.lt_of_lt_of_le h.big hb.size⟩
theorem Ground.save {w w' : World} (h : Ground w) {p : Nat} (hb : Save p w w') (hp : 2 < p) : Ground w' :=
  ⟨fun i hi => (hb.cell (q := ⟨0, i, none⟩) (by have := h.big; show (0 : Nat) < _; omega) (by show (0 : Nat) ≠ p; omega)).trans (h.first i hi), h.roots.save hb h.big (by omega), Nat.lt_of_lt_of_le h.big hb.size⟩

/-- the bytes of a text -/
def byt (s : ByteArray) (i : Nat) : Nat := (s.data.getD i 0).toNat
theorem byt_lt (s : ByteArray) (i : Nat) : byt s i < 256 := UInt8.toNat_lt _
theorem digest_congr {n : Nat} {X Y : Nat → Nat} (h : ∀ i, i < n → X i = Y i) : digest n X = digest n Y := by
  unfold digest
  refine folds_congr _ (fun i _ => ?_)
  unfold cat
  by_cases e : i < n
  · rw [if_pos e, if_pos e, h i e]
  · rw [if_neg e, if_neg e]
theorem digest_ego (n : Nat) (X : Nat → Nat) : digest n X = ego (cat n X (padb n)) ((n + (zend n + 8)) / 64) 0 H0 := folds_ego _ _
theorem view_text (w : World) (s : ByteArray) (hs : s.size ≤ 281474976710656) : View (w.drew.alloc (.cells (bytesRow s (grownCap w s.size 0 5)) 5 ((bytesRow s (grownCap w s.size 0 5)).size, (bytesRow s (grownCap w s.size 0 5)).size + 1))) (some ⟨w.heap.size, 0, none⟩) w.heap.size 0 s.size (fun i => (byt s i : Int)) := by
  refine ⟨fun _ => rfl, fun i hi => ?_, fun i hi => ?_, hs⟩
  · have e := cell_of_row _ _ i _ 5 _ (heap_alloc_new w.drew (.cells (bytesRow s (grownCap w s.size 0 5)) 5 ((bytesRow s (grownCap w s.size 0 5)).size, (bytesRow s (grownCap w s.size 0 5)).size + 1)))
    rw [Nat.zero_add]
    refine Eq.trans e ?_
    rw [bytesRow_at s _ i hi]
    have hi' : i < s.data.size := hi
    unfold byt
    rw [Array.getD_eq_getD_getElem?, Array.getElem?_eq_getElem hi']
    rfl
  · have := byt_lt s i
    omega

/-- one list of bytes, in a new list -/
theorem parts_one {w : World} {A : Option Addr} {b off m c : Nat} {Y : Nat → Nat} (hv : View w A b off m (fun i => (Y i : Int))) (hc : m ≤ c) (hY : ∀ i, Y i < 256) (t : TypeId) :
    Parts (w.alloc (.cells #[.slice A m c] t)) (some ⟨w.heap.size, 0, none⟩) w.heap.size 0 1 (fun _ => A) (fun _ => b) (fun _ => off) (fun _ => m) (fun _ => c) (fun _ => Y) := by
  refine ⟨fun _ => rfl, fun i hi => ?_, fun i hi => hv.below ((Below.refl _ _).alloc (Nat.le_refl _) _), fun i hi => hc, fun _ => hY⟩
  have : i = 0 := by omega
  subst this
  rw [cell_of_row _ _ _ _ t _ (heap_alloc_new w _)]
  rfl
theorem tot_one (m : Nat) : tot (fun _ => m) 1 = m := by simp [tot]
theorem digest_one (m : Nat) (Y : Nat → Nat) : digest (tot (fun _ => m) 1) (jn (fun _ => m) (fun _ => Y) 1) = digest m Y := by
  rw [tot_one]
  refine digest_congr (fun i _ => ?_)
  simp [jn, cat, tot]

/-- a list of bytes at a stroke -/
theorem sum_one (w : World) (A : Option Addr) (b off m c t cap : Nat) (Y : Nat → Nat) (hv : View w A b off m (fun i => (Y i : Int))) (hc : m ≤ c) (hY : ∀ i, Y i < 256) (hF : First w) (hK : Roots w) (hw : 2 < w.heap.size) :
    Calls Tryz.prog 42 #[.slice (some ⟨w.heap.size, 0, none⟩) 1 cap] (w.alloc (.cells #[.slice A m c] t)) fun e w' => e = .returned (.agg (hashA (digest m Y))) ∧ Below (w.alloc (.cells #[.slice A m c] t)).heap.size (w.alloc (.cells #[.slice A m c] t)) w' := by
  have b0 : Below w.heap.size w (w.alloc (.cells #[.slice A m c] t)) := (Below.refl _ _).alloc (Nat.le_refl _) _
  have h := sums_any _ _ _ _ 1 cap _ _ _ _ _ _ (parts_one hv hc hY t) (hK.below b0 hw) (hF.below b0 (by omega)) (by simp; omega) (by omega) (by rw [tot_one]; have := hv.len; omega)
  rw [digest_one] at h
  exact h

theorem ch {a b c : World} (h1 : Below a.heap.size a b) (h2 : Below b.heap.size b c) : Below a.heap.size a c := h1.trans (h2.mono h1.size)
theorem hashA_one (s : W8) : (hashA s).all (·.oneCell') = true := all_one (fun i hi => ⟨_, _, hashA_cell _ i (by rw [hashA_size] at hi; exact hi)⟩)
theorem hashA_info (s : W8) : (Tryz.prog.info? 31).map (·.size) = some (hashA s).size := by rw [hashA_size]; exact info26
theorem Z32_hash (s : W8) : Z32.size = (hashA s).size := by rw [hashA_size]; rfl
/-- a hash in a block of its own -/
def HashAt (w : World) (g : Nat) (s : W8) : Prop := w.heap[g]? = some (.cells (hashA s) 31 (0, 0))
theorem HashAt.below {w w' : World} {g : Nat} {s : W8} (h : HashAt w g s) (hb : Below w.heap.size w w') : HashAt w' g s := by
  have hg : g < w.heap.size := by
    by_cases e : g < w.heap.size
    · exact e
    · have hn : w.heap[g]? = none := by simp; omega
      unfold HashAt at h
      rw [hn] at h
      cases h
  exact (hb.block g hg).trans h
theorem HashAt.cells {w : World} {g : Nat} {s : W8} (h : HashAt w g s) : ∀ j, j < (hashA s).size → w.cell? ⟨g, j, none⟩ = (hashA s)[j]? := fun j _ => cell_of_row w g j _ 31 _ h
theorem hash_laid (w : World) (s : W8) : HashAt ((w.alloc (.cells Z32 31)).setRow w.heap.size (hashA s)) w.heap.size s ∧ Below w.heap.size w ((w.alloc (.cells Z32 31)).setRow w.heap.size (hashA s)) :=
  ⟨setRow_heap _ _ _ _ _ _ (heap_alloc_new _ _), below_setRow ((Below.refl _ _).alloc (Nat.le_refl _) _) (Nat.le_refl _) _⟩

theorem quiet_load {P : Program} {ops : Array Oper} {C : World → Prop} {Q : Act → Prop} {a : Act} {o : Oper} {rest : List Oper} (hw : Region.wanted o (yielded ops a.tmps) = true) (ty : TypeId) (x : Operand) (ho : o.op = .load ty x)
    (g : Nat) (hx : a.eval x = .pointer (some ⟨g, 0, none⟩)) (cs : Array Value) (d : TypeDesc) (hc : ∀ w, C w → ∀ j, j < cs.size → w.cell? ⟨g, j, none⟩ = cs[j]?)
    (hu : P.underlying ty = some d) (hd : (match d with | .struct _ | .array _ _ => true | _ => false) = true) (hi : (P.info? ty).map (·.size) = some cs.size)
    (h : wpQuiet P ops C Q rest (a.put o.dst (.agg cs))) : wpQuiet P ops C Q (o :: rest) a := by
  refine wpQuiet_step fun K hK => ?_
  rw [if_pos hw]
  refine ⟨.agg cs, fun w hC => ?_, hK _ h⟩
  unfold Oper.quietAt execOp
  simp only [ho, hx, Instr.loadAt, Instr.sureAddr, Sem.run_bind, Sem.run_pure, Result.andThen_ok, run_loadVar_cells w g ty cs d (hc w hC) hu hd hi]
  exact ⟨rfl, rfl⟩

end Go.Proofs.YtepeolbbplodfaaGreatDoor.Dg
