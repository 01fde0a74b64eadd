import Derived.Test.YtpmdjopojcgpeaaGreatDoorQMemq
import Derived.Test.YtpmdjopojcgpeaaGreatDoorQGenq
/-
  Notes in memory: a map by hashes, each element a list of strings that rises.
-/
namespace Go.Proofs.YtpmdjopojcgpeaaGreatDoor.Dg
open Go.RowKit Go.Maps

def nilS : Value := .slice none 0 0
def holdR (v : Value) : Option (DataW Value × List MemPlace) := some (.held v, [])
/-- a hash as a value -/
def hA (k : List Nat) : Array Value := (bv k).toArray
def IsH (k : List Nat) : Prop := k.length = 32 ∧ ∀ x ∈ k, x < 256
theorem hA_size {k : List Nat} (h : IsH k) : (hA k).size = 32 := by simp [hA, bv_len, h.1]
theorem hA_cell {k : List Nat} (h : IsH k) : ∀ i, i < 32 → (hA k)[i]? = some (.int .u8 (gd k i : Nat)) := by
  intro i hi
  unfold hA
  rw [List.getElem?_toArray]
  exact bv_at (by rw [h.1]; exact hi)
theorem hA_inj {k k' : List Nat} (h : hA k = hA k') : k = k' := by
  have : bv k = bv k' := by simpa [hA] using h
  unfold bv at this
  exact (List.map_inj_right (fun x y e => by injection e with _ e; omega)).1 this
theorem hA_of {cs : Array Value} {f : Nat → Nat} (h : cs.size = 32) (hc : ∀ i, i < 32 → cs[i]? = some (.int .u8 (f i))) : cs = hA (lst 32 f) := by
  apply Array.ext_getElem?
  intro i
  by_cases hi : i < 32
  · rw [hc i hi]
    unfold hA
    rw [List.getElem?_toArray, bv_at (by rw [lst_len]; exact hi), lst_gd hi]
  · rw [Array.getElem?_eq_none (by omega), Array.getElem?_eq_none (by simp [hA, bv_len, lst_len]; omega)]
theorem isH_lst {f : Nat → Nat} (h : ∀ i, f i < 256) : IsH (lst 32 f) := ⟨lst_len _ _, fun x hx => by
  obtain ⟨i, _, rfl⟩ := List.mem_map.1 hx
  exact h i⟩

def klit (k : List Nat) : Lit := .string (keyBytes (k.map (fun x : Nat => Lit.int .u8 (x : Int))))
theorem wf8 {x : Nat} (h : x < 256) : (Lit.int .u8 (x : Int)).wf = true := by
  simp [Lit.wf, IntKind.min, IntKind.max, IntKind.bits, IntKind.signed]
  omega
theorem c26 : Tryz.prog.cellsOf 38 = 32 := by kernel_rfl
theorem c5 : Tryz.prog.cellsOf 5 = 1 := by kernel_rfl
theorem flat_one {α β : Type} (f : α → β) : ∀ l : List α, (l.map (fun i => [f i])).flatten = l.map f
  | [] => rfl
  | x :: l => by simp [flat_one f l]
theorem lits_hash (d : Nat) {k : List Nat} (h : IsH k) : Tryz.prog.keyLits (d + 2) 38 (bv k) = some (k.map (fun x : Nat => Lit.int .u8 (x : Int))) := by
  unfold Program.keyLits
  rw [Tryz.underlying38]
  simp only [bv_len, h.1, c26, if_true]
  rw [mapM_some _ (fun i => [Lit.int .u8 ((gd k i : Nat) : Int)]) (List.range 32) ?_]
  · simp only [Option.map_some, Option.some.injEq]
    rw [flat_one]
    conv => rhs; rw [← lst_of k, h.1]
    simp [lst]
  · intro i hi
    have hi' : i < 32 := by simpa using hi
    have e : ((bv k).drop (i * Tryz.prog.cellsOf 5)).take (Tryz.prog.cellsOf 5) = [.int .u8 (gd k i : Nat)] := by
      rw [c5, Nat.mul_one]
      have hl : i < (bv k).length := by rw [bv_len, h.1]; exact hi'
      rw [List.drop_eq_getElem_cons hl]
      have h2 := bv_at (s := k) (i := i) (by rw [h.1]; exact hi')
      rw [List.getElem?_eq_getElem hl] at h2
      simp only [List.take_succ_cons, List.take_zero]
      rw [Option.some.inj h2]
    rw [e]
    unfold Program.keyLits
    rw [Tryz.underlying5]
    simp only [wf8 (gd_lt h.2 i), and_self, if_true]
theorem formed_hash {k : List Nat} (h : IsH k) : (Value.agg (hA k)).formed Tryz.prog 38 = true := by
  unfold Value.formed
  rw [Tryz.underlying38, c26]
  show ((hA k).size == 32) = true
  rw [hA_size h]
  rfl
theorem keyType26 : Tryz.prog.keyType 38 = true := by kernel_rfl
theorem types_two : ∃ d, Tryz.prog.types.size + 1 = d + 2 := ⟨Tryz.prog.types.size - 1, by
  have : 1 ≤ Tryz.prog.types.size := by
    have h : (decide (1 ≤ Tryz.prog.types.size)) = true := by kernel_rfl
    exact of_decide_eq_true h
  omega⟩
theorem keyOf_hash {k : List Nat} (h : IsH k) : keyOf Tryz.prog 38 (.agg (hA k)) = some (klit k) := by
  obtain ⟨d, hd⟩ := types_two
  unfold keyOf
  rw [Tryz.underlying38]
  simp only [keyType26, formed_hash h, Bool.and_self, if_true, hd]
  have : (Value.agg (hA k)).cells.toList = bv k := by simp [Value.cells, hA]
  rw [this, lits_hash d h]
  rfl
theorem keyed : Keyed Tryz.prog 38 :=
  Keyed.of_law (deep_law_laid (by kernel_rfl) (m := 2) (by decide) (by
    have h : (decide (38 < Tryz.prog.types.size)) = true := by kernel_rfl
    exact of_decide_eq_true h) (by kernel_rfl) (by rw [Tryz.underlying38]))
theorem klit_inj {k k' : List Nat} (h : IsH k) (h' : IsH k') (e : klit k = klit k') : k = k' := by
  have := keyed.inj (keyOf_hash h) (e ▸ keyOf_hash h')
  injection this with this
  exact hA_inj this
theorem klit_key {k : List Nat} (h : IsH k) : WideAt.IsKeyLit (klit k) := keyed.key (keyOf_hash h)

theorem mapM_all {α β : Type} (f : α → Option β) : ∀ (l : List α) (r : List β), l.mapM f = some r → ∀ x ∈ l, ∃ y, f x = some y
  | [], _, _ => by simp
  | a :: l, r, h => by
    rw [List.mapM_cons] at h
    simp only [bind, Option.bind_eq_some_iff, pure, Option.some.injEq] at h
    obtain ⟨y, hy, ys, hys, _⟩ := h
    intro x hx
    rcases List.mem_cons.1 hx with rfl | hx
    · exact ⟨y, hy⟩
    · exact mapM_all f l ys hys x hx
theorem u8_of_wf {n : Int} (h : (Lit.int .u8 n).wf = true) : 0 ≤ n ∧ n < 256 := by
  simp [Lit.wf, IntKind.min, IntKind.max, IntKind.bits, IntKind.signed] at h
  omega
set_option maxRecDepth 100000 in
theorem key_inv {v : Value} {l : Lit} (h : keyOf Tryz.prog 38 v = some l) : ∃ k, IsH k ∧ v = .agg (hA k) ∧ l = klit k := by
  obtain ⟨d, hd⟩ := types_two
  have h0 := h
  unfold keyOf at h
  rw [Tryz.underlying38] at h
  simp only [keyType26, Bool.true_and] at h
  split at h
  · rename_i hf
    unfold Value.formed at hf
    cases v <;> simp only [Tryz.underlying38] at hf <;> try (cases hf; done)
    rename_i cs
    rw [c26] at hf
    have hs : cs.size = 32 := by simpa using hf
    rw [hd] at h
    cases hl : Tryz.prog.keyLits (d + 2) 38 (Value.agg cs).cells.toList with
    | none => rw [hl] at h; cases h
    | some ls =>
      have hl' := hl
      unfold Program.keyLits at hl
      rw [Tryz.underlying38] at hl
      simp only [Value.cells, Array.length_toList, hs, c26, if_true] at hl
      cases hm : (List.range 32).mapM fun i => Tryz.prog.keyLits (d + 1) 5 ((cs.toList.drop (i * Tryz.prog.cellsOf 5)).take (Tryz.prog.cellsOf 5)) with
      | none => rw [hm] at hl; cases hl
      | some r =>
        have ha := mapM_all _ _ _ hm
        have cell : ∀ i, i < 32 → ∃ x : Nat, x < 256 ∧ cs[i]? = some (.int .u8 (x : Int)) := by
          intro i hi
          obtain ⟨y, hy⟩ := ha i (by simpa using hi)
          rw [c5, Nat.mul_one] at hy
          have hil : i < cs.toList.length := by simp; omega
          rw [List.drop_eq_getElem_cons hil] at hy
          simp only [List.take_succ_cons, List.take_zero] at hy
          unfold Program.keyLits at hy
          rw [Tryz.underlying5] at hy
          have e : cs[i]? = some cs.toList[i] := by rw [← List.getElem?_eq_getElem hil]; simp
          cases hv : cs.toList[i] <;> rw [hv] at hy <;> simp only [] at hy <;> try (cases hy; done)
          rename_i q m
          split at hy
          · rename_i hq
            obtain ⟨rfl, hw⟩ := hq
            have := u8_of_wf hw
            refine ⟨m.toNat, by omega, ?_⟩
            rw [e, hv, Int.toNat_of_nonneg this.1]
          · cases hy
        have hch : ∀ i, ∃ x : Nat, x < 256 ∧ (i < 32 → cs[i]? = some (.int .u8 (x : Int))) := fun i => by
          by_cases hi : i < 32
          · obtain ⟨x, h1, h2⟩ := cell i hi
            exact ⟨x, h1, fun _ => h2⟩
          · exact ⟨0, by decide, fun k => absurd k hi⟩
        obtain ⟨f, hf2⟩ := Classical.axiomOfChoice hch
        have e := hA_of hs (fun i hi => (hf2 i).2 hi)
        have hk : IsH (lst 32 f) := isH_lst (fun i => (hf2 i).1)
        refine ⟨lst 32 f, hk, by rw [e], ?_⟩
        rw [e, keyOf_hash hk] at h0
        exact (Option.some.inj h0).symm
  · cases h

theorem own_ne_cells {w : World} {base e size n : Nat} {v : Value} {xs : List Value} (h : w.ownsRow base e size v n xs) {g : Nat} {cs : Array Value} {t : TypeId} {fz : Nat × Nat} (hg : w.heap[g]? = some (.cells cs t fz)) (ht : t ≠ e) : v.ownBlock ≠ some g := by
  intro k
  rcases h.2 with ⟨rfl, _⟩ | ⟨g', cap, cur, rfl, _, hg', _⟩
  · simp [Value.ownBlock] at k
  · simp only [Value.ownBlock, Option.some.injEq] at k
    subst k
    rw [hg] at hg'
    injection hg' with hg'
    injection hg' with _ h2
    exact ht h2
theorem own_ne_map {w : World} {base e size n : Nat} {v : Value} {xs : List Value} (h : w.ownsRow base e size v n xs) {H : Type} {P : Program} {kt : TypeId} {R : Value → Option (DataW H × List MemPlace)} {b m : Nat} {D : DataW H} (hm : w.ownsMap P kt R b m D) : v.ownBlock ≠ some b := by
  intro k
  obtain ⟨es, clock, hg, _⟩ := hm
  rcases h.2 with ⟨rfl, _⟩ | ⟨g', cap, cur, rfl, _, hg', _⟩
  · simp [Value.ownBlock] at k
  · simp only [Value.ownBlock, Option.some.injEq] at k
    subst k
    rw [hg] at hg'
    injection hg' with hg'
    cases hg'
theorem own_block {w : World} {base e size n : Nat} {v : Value} {xs : List Value} (h : w.ownsRow base e size v n xs) {g : Nat} (hv : v.ownBlock = some g) : ∃ cur, w.heap[g]? = some (.cells cur e (0, 0)) := by
  rcases h.2 with ⟨rfl, _⟩ | ⟨g', cap, cur, rfl, _, hg', _⟩
  · simp [Value.ownBlock] at hv
  · simp only [Value.ownBlock, Option.some.injEq] at hv
    subst hv
    exact ⟨cur, hg'⟩

/-- NOTES: the map in block bm, all blocks among F's. -/
structure NotesX (w : World) (bm : Nat) (F : Nat → Prop) (κ : List Nat → List Nat) (L : List (List Nat)) (D : DataW Value) (V : List Nat → Value) (n : Nat) : Prop where
  ris : Ris L
  map : w.ownsMap Tryz.prog 38 holdR bm n D
  room : n ≤ L.length
  foot : F bm
  val : ∀ k, IsH k → D.atKey (klit k) (.held nilS) = .held (V k)
  has : ∀ k, IsH k → (Maps.has D (klit k) = true ↔ grp κ L k ≠ [])
  row : ∀ k, IsH k → ∃ xs, w.ownsRow 0 29 1 (V k) (grp κ L k).length xs ∧ Strs w F xs (grp κ L k)
  rfoot : ∀ k g, IsH k → (V k).ownBlock = some g → F g
  apart : ∀ k k' g, IsH k → IsH k' → (V k).ownBlock = some g → (V k').ownBlock = some g → k = k'
  cnt : Maps.size D ≤ L.length ∧ (Maps.size D = L.length ↔ Lone κ L)
  key : ∀ s ∈ L, IsH (κ s)
def Notes (w : World) (bm : Nat) (F : Nat → Prop) (κ : List Nat → List Nat) (L : List (List Nat)) : Prop := ∃ D V n, NotesX w bm F κ L D V n

theorem NotesX.turn {w w' : World} {bm : Nat} {F G : Nat → Prop} {κ : List Nat → List Nat} {L : List (List Nat)} {D : DataW Value} {V : List Nat → Value} {n : Nat} (h : NotesX w bm F κ L D V n) (t : Turn G w w') (hd : ∀ i, F i → i < w.heap.size → ¬ G i) : NotesX w' bm F κ L D V n :=
  { h with
    map := map_turn h.map t (hd bm h.foot h.map.lt)
    row := fun k hk => by
      obtain ⟨xs, h1, h2⟩ := h.row k hk
      exact ⟨xs, own_turn h1 t (fun g hg => hd g (h.rfoot k g hk hg) (h1.lt g hg).2), h2.imp (fun u _ s hs => hs.turn t hd)⟩ }
theorem Notes.turn {w w' : World} {bm : Nat} {F G : Nat → Prop} {κ : List Nat → List Nat} {L : List (List Nat)} (h : Notes w bm F κ L) (t : Turn G w w') (hd : ∀ i, F i → i < w.heap.size → ¬ G i) : Notes w' bm F κ L := by
  obtain ⟨D, V, n, h⟩ := h
  exact ⟨D, V, n, h.turn t hd⟩
theorem NotesX.mono {w : World} {bm : Nat} {F G : Nat → Prop} {κ : List Nat → List Nat} {L : List (List Nat)} {D : DataW Value} {V : List Nat → Value} {n : Nat} (h : NotesX w bm F κ L D V n) (hd : ∀ i, F i → G i) : NotesX w bm G κ L D V n :=
  { h with
    foot := hd _ h.foot
    row := fun k hk => by
      obtain ⟨xs, h1, h2⟩ := h.row k hk
      exact ⟨xs, h1, h2.imp (fun u _ s hs => hs.mono hd)⟩
    rfoot := fun k g hk hg => hd _ (h.rfoot k g hk hg) }

/-- a new map holds no notes -/
theorem notes_new (w : World) (κ : List Nat → List Nat) : Notes (w.alloc (.map #[] 0)) w.heap.size (fun i => i = w.heap.size) κ [] :=
  ⟨.map [], fun _ => nilS, 0, {
    ris := List.Pairwise.nil
    map := World.ownsMap_made w _ _ _
    room := Nat.le_refl _
    foot := rfl
    val := fun k _ => rfl
    has := fun k _ => by simp [Maps.has, grp]
    row := fun k _ => ⟨[], World.ownsRow_nil _ _ _ _, .nil⟩
    rfoot := fun k g _ hg => by simp [nilS, Value.ownBlock] at hg
    apart := fun k k' g _ _ hg => by simp [nilS, Value.ownBlock] at hg
    cnt := ⟨Nat.le_refl _, fun _ => List.Pairwise.nil, fun _ => rfl⟩
    key := by simp }⟩

/-- A NEW STRING IS NOTED: its row has turned or is new, then the map has. -/
theorem NotesX.store {w w2 w3 : World} {bm : Nat} {F F' : Nat → Prop} {κ : List Nat → List Nat} {L : List (List Nat)} {D : DataW Value} {V : List Nat → Value} {n : Nat} {s : List Nat} {v' : Value} {xs' : List Value} (h : NotesX w bm F κ L D V n) (hs : s ∉ L) (hk : IsH (κ s))
    (hF : ∀ i, F i → F' i) (hnew : ∀ i, w.heap.size ≤ i → i < w3.heap.size → F' i)
    (t : Turn (fun i => (V (κ s)).ownBlock = some i) w w2) (own : w2.ownsRow 0 29 1 v' ((grp κ L (κ s)).length + 1) xs') (strs : Strs w2 F' xs' (ins s (grp κ L (κ s))))
    (vf : v'.ownBlock = (V (κ s)).ownBlock ∨ ∃ g, v'.ownBlock = some g ∧ w.heap.size ≤ g)
    (m : w3.ownsMap Tryz.prog 38 holdR bm (n + 1) (D.put (klit (κ s)) (.held v'))) (g3 : w2.grownBy w3 (some bm)) :
    NotesX w3 bm F' κ (ins s L) (D.put (klit (κ s)) (.held v')) (fun k => if k = κ s then v' else V k) (n + 1) := by
  have hsg : s ∉ grp κ L (κ s) := fun k => hs (mem_grp.1 k).1
  obtain ⟨xk, ok, sk⟩ := h.row (κ s) hk
  have m2 : w2.ownsMap Tryz.prog 38 holdR bm n D := map_turn h.map t (own_ne_map ok h.map)
  have t3 : Turn (fun i => i = bm) w2 w3 := Turn.of_grown g3 (fun k e => (Option.some.inj e).symm)
  have str2 : ∀ u t', Str w F u t' → Str w2 F u t' := fun u t' hu => ⟨own_turn hu.own t (fun g hg e => by
      obtain ⟨cur, hc⟩ := own_block ok e
      exact own_ne_cells hu.own hc (by decide) hg), hu.foot, hu.ok⟩
  have str3 : ∀ {G : Nat → Prop} u t', Str w2 G u t' → Str w3 G u t' := fun u t' hu => ⟨own_turn hu.own t3 (fun g hg e => own_ne_map hu.own m2 (e ▸ hg)), hu.foot, hu.ok⟩
  have own3 : ∀ {v : Value} {q : Nat} {ys : List Value}, w2.ownsRow 0 29 1 v q ys → w3.ownsRow 0 29 1 v q ys := fun hv => own_turn hv t3 (fun g hg e => own_ne_map hv m2 (e ▸ hg))
  have hlen := ins_length hs
  have hput : ∀ k, IsH k → k ≠ κ s → klit k ≠ klit (κ s) := fun k hk' hne e => hne (klit_inj hk' hk e)
  have hblk : ∀ k g, IsH k → k ≠ κ s → (V k).ownBlock = some g → v'.ownBlock = some g → False := fun k g hk' hne h1 h2 => by
    rcases vf with e | ⟨g', e, hg'⟩
    · exact hne (h.apart k (κ s) g hk' hk h1 (e ▸ h2))
    · rw [e] at h2
      obtain ⟨ys, oy, _⟩ := h.row k hk'
      have := (oy.lt g h1).2
      have := Option.some.inj h2
      omega
  refine { ris := ris_ins h.ris, map := m, room := by rw [hlen]; have := h.room; omega, foot := hF _ h.foot, val := fun k hk' => ?_, has := fun k hk' => ?_, row := fun k hk' => ?_, rfoot := fun k g hk' hg => ?_, apart := fun k k' g hk1 hk2 h1 h2 => ?_, cnt := ?_, key := fun x hx => ?_ }
  · by_cases e : k = κ s
    · subst e
      rw [if_pos rfl, atKey_put_same h.map.isMap (klit_key hk)]
    · rw [if_neg e, atKey_put_other (hput k hk' e)]
      exact h.val k hk'
  · rw [grp_ins h.ris]
    by_cases e : k = κ s
    · subst e
      rw [if_pos rfl, has_put_same h.map.isMap (klit_key hk)]
      refine ⟨fun _ c => ?_, fun _ => rfl⟩
      have : s ∈ ins s (grp κ L (κ s)) := mem_ins.2 (Or.inl rfl)
      rw [c] at this
      simp at this
    · rw [if_neg (fun q => e q.symm), has_put_other (hput k hk' e)]
      exact h.has k hk'
  · rw [grp_ins h.ris]
    by_cases e : k = κ s
    · subst e
      rw [if_pos rfl, if_pos rfl, ins_length hsg]
      exact ⟨xs', own3 own, strs.imp (fun u _ t' hu => str3 u t' hu)⟩
    · rw [if_neg e, if_neg (fun q : κ s = k => e q.symm)]
      obtain ⟨ys, oy, sy⟩ := h.row k hk'
      refine ⟨ys, own3 (own_turn oy t (fun g hg q => e (h.apart k (κ s) g hk' hk hg q))), sy.imp (fun u _ t' hu => (str3 u t' (str2 u t' hu)).mono hF)⟩
  · by_cases e : k = κ s
    · rw [if_pos e] at hg
      rcases vf with q | ⟨g', q, hg'⟩
      · exact hF _ (h.rfoot (κ s) g hk (q ▸ hg))
      · have hlt := ((own3 own).lt g hg).2
        rw [q] at hg
        exact hnew g (by have := Option.some.inj hg; omega) hlt
    · rw [if_neg e] at hg
      exact hF _ (h.rfoot k g hk' hg)
  · by_cases e1 : k = κ s
    · by_cases e2 : k' = κ s
      · rw [e1, e2]
      · rw [if_pos e1] at h1
        rw [if_neg e2] at h2
        exact (hblk k' g hk2 e2 h2 h1).elim
    · by_cases e2 : k' = κ s
      · rw [if_neg e1] at h1
        rw [if_pos e2] at h2
        exact (hblk k g hk1 e1 h1 h2).elim
      · rw [if_neg e1] at h1
        rw [if_neg e2] at h2
        exact h.apart k k' g hk1 hk2 h1 h2
  · rw [hlen]
    have hc := h.cnt
    by_cases e : grp κ L (κ s) = []
    · have hn : Maps.has D (klit (κ s)) = false := by
        cases q : Maps.has D (klit (κ s)) with
        | false => rfl
        | true => exact absurd e ((h.has _ hk).1 q)
      rw [size_put (h.map.tidy keyed), hn, lone_ins_new e]
      simp only [Bool.false_eq_true, if_false]
      refine ⟨by omega, ?_⟩
      rw [← hc.2]
      omega
    · have hn := (h.has _ hk).2 e
      rw [size_put (h.map.tidy keyed), hn]
      simp only [if_true]
      refine ⟨by omega, fun q => by omega, fun q => ?_⟩
      cases hg : grp κ L (κ s) with
      | nil => exact absurd hg e
      | cons x r =>
        have hx : x ∈ grp κ L (κ s) := by rw [hg]; simp
        obtain ⟨hx1, hx2⟩ := mem_grp.1 hx
        exact absurd q (not_lone_of (mem_ins.2 (Or.inr hx1)) (mem_ins.2 (Or.inl rfl)) (fun c => hs (c ▸ hx1)) hx2)
  · rcases mem_ins.1 hx with rfl | hx
    · exact hk
    · exact h.key x hx
end Go.Proofs.YtpmdjopojcgpeaaGreatDoor.Dg
