import Derived.Test.YtepeolbbplodfaaGreatDoorQRCutq
import Derived.Test.YtepeolbbplodfaaGreatDoorQInsq
import Derived.Test.YtepeolbbplodfaaGreatDoorQLibCq
import Derived.Lib.QuietBelow
import Derived.Test.YtepeolbbplodfaaGreatDoorQGenq
import Derived.Test.YtepeolbbplodfaaGreatDoorQEqAq
import Derived.Test.YtepeolbbplodfaaGreatDoorQRSumq
/-
  mac: the block of a secret.
-/
namespace Go.Proofs.YtepeolbbplodfaaGreatDoor.Dg
open Go.RowKit

/-- the builtin copy, of bytes, as one step of a region that draws its order -/
theorem step_copy_in {w : World} {ops : Array Oper} {o : Oper} {a : Act} {K : Act → World → Prop} {Q : Exit → Act → World → Prop} {E : Prop} (hgd : o.guard = none) (d s : Operand)
    (ho : o.op = .call { callee := .builtin .copy, args := #[d, s], argTypes := #[33, 33] })
    (g off dLen dCap t N : Nat) (f : Nat → Value) (hd : a.eval d = .slice (some ⟨g, off, none⟩) dLen dCap) (hr : w.rowIs g t N f) (hfit : off + dLen ≤ N)
    (sp : Option Addr) (b o2 m c : Nat) (Z : Nat → Int) (hs : a.eval s = .slice sp m c) (hv : View w sp b o2 m Z) (cnt : Nat) (hcnt : cnt = Nat.min m dLen)
    (h : ∀ w', Save g w w' → w'.rowIs g t N (fun i => if off ≤ i ∧ i < off + cnt then .int .u8 (Z (i - off)) else f i) → K (a.put o.dst (.int .i64 cnt)) w') :
    if Region.wanted o (yielded ops a.tmps) = true then Oper.wp Tryz.prog o a w K Q else E := by
  have hw : Region.wanted o (yielded ops a.tmps) = true := by simp [Region.wanted, hgd]
  rw [if_pos hw]
  obtain ⟨cur, hg, hsz, hc⟩ := hr
  have hle : cnt ≤ m ∧ cnt ≤ dLen := by rw [hcnt]; exact ⟨Nat.min_le_left _ _, Nat.min_le_right _ _⟩
  by_cases h0 : cnt = 0
  · subst h0
    have hrun := run_copy_none (P := Tryz.prog) w 33 33 o.type 5 (some ⟨g, off, none⟩) sp dLen dCap m c Tryz.underlying33 info5size hcnt.symm
    unfold Oper.wp
    simp [execOp, ho, resolve, invoke, builtin, hd, hs, hrun, Result.andThen]
    exact h w (Save.refl _ _) ⟨cur, hg, hsz, fun i hi => by show cur[i]? = some (if off ≤ i ∧ i < off + 0 then _ else f i); rw [if_neg (by omega)]; exact hc i hi⟩
  · obtain rfl := hv.at_ (by omega)
    have hl : ((List.range cnt).map (fun i => Value.int .u8 (Z i))).length = cnt := by simp
    have hrun := run_copy_row (P := Tryz.prog) w 33 33 o.type 5 g off dLen dCap ⟨b, o2, none⟩ m c cur t ((List.range cnt).map (fun i => Value.int .u8 (Z i))) Tryz.underlying33 info5size hg (by rw [hl, hcnt]) (by
      intro j v hj
      have hjl : j < cnt := by
        have := (List.getElem?_eq_some_iff.1 hj).1
        omega
      rw [List.getElem?_map, List.getElem?_range hjl] at hj
      have e : v = .int .u8 (Z j) := by simpa using hj.symm
      subst e
      rw [Go.WideShapes.add_plain]
      exact hv.cell j (by omega)) (by rw [hl, hsz]; omega) (by
      intro v hv'
      simp only [List.mem_map] at hv'
      obtain ⟨i, _, rfl⟩ := hv'
      rfl)
    have sp := splice_cell (Z := Z) hsz hc (by omega) _ rfl (cnt := cnt) (off := off)
    have hh := h (w.setRow g ((cur.toList.take off ++ (((List.range cnt).map (fun i => Value.int .u8 (Z i))) ++ cur.toList.drop (off + ((List.range cnt).map (fun i => Value.int .u8 (Z i))).length))).toArray)) ((Save.refl _ _).setRow _) (rowIs_setRow hg sp.1 sp.2)
    rw [hl] at hrun hh
    unfold Oper.wp
    simp only [execOp, ho, resolve, invoke, builtin]
    simp [hd, hs, hrun, Result.andThen]
    exact hh

/-- the block of a secret of n bytes S -/
def blk (n : Nat) (S : Nat → Nat) (i : Nat) : Nat := if n ≤ 64 then (if i < n then S i else 0) else if i < 32 then hb (digest n S) i else 0
theorem hb_lt (s : W8) (i : Nat) : hb s i < 256 := Nat.mod_lt _ (by decide)
theorem blk_lt {n : Nat} {S : Nat → Nat} (h : ∀ i, S i < 256) (i : Nat) : blk n S i < 256 := by
  unfold blk
  split
  · split
    · exact h i
    · omega
  · split
    · exact hb_lt _ _
    · omega

/-- two new blocks of zeros -/
structure BF (w w2 : World) : Prop where
  below : Below w.heap.size w w2
  size : w2.heap.size = w.heap.size + 2
  out : w2.heap[w.heap.size]? = some (.cells Y64 156 (0, 0))
  row : w2.rowIs (w.heap.size + 1) 156 64 (fun _ => .int .u8 0)
theorem bf_start (w : World) : BF w ((w.alloc (.cells Y64 156)).alloc (.cells Y64 156)) := by
  refine ⟨((Below.refl _ _).alloc (Nat.le_refl _) _).alloc (by simp) _, by simp, ?_, ?_⟩
  · rw [heap_alloc_old _ _ (by simp)]
    exact heap_alloc_new _ _
  · have := zeros_row (w.alloc (.cells Y64 156)) (.int .u8 0) 64 156
    rw [World.size_alloc] at this
    have e : Array.replicate 64 (Value.int .u8 0) = Y64 := Y64_rep.symm
    rw [e] at this
    exact this
theorem hash_view {w : World} {g : Nat} {s : W8} (h : HashAt w g s) : View w (some ⟨g, 0, none⟩) g 0 32 (fun i => ((hb s i : Nat) : Int)) :=
  ⟨fun _ => rfl, fun i hi => by rw [Nat.zero_add, h.cells i (by rw [hashA_size]; exact hi), hashA_cell s i hi], fun i _ => by have := hb_lt s i; omega, by omega⟩

end Go.Proofs.YtepeolbbplodfaaGreatDoor.Dg

/-
  mac: a code on its way, in memory.
-/
namespace Go.Proofs.YtepeolbbplodfaaGreatDoor.Dg
open Go.RowKit

def stL (s : W8) (R : Nat → Nat) (n : Nat) : List Value := (List.range 73).map (stc E0.tl s R n)
def blkL (B : Nat → Nat) : List Value := (List.range 64).map (fun i => Value.int .u8 (B i))
theorem stL_len (s : W8) (R : Nat → Nat) (n : Nat) : (Tryz.prog.info? 158).map (·.size) = some (stL s R n).length := by
  unfold stL
  simp only [List.length_map, List.length_range]
  exact (zero_of_info info54).2
theorem blkL_len (B : Nat → Nat) : (Tryz.prog.info? 156).map (·.size) = some (blkL B).length := by
  unfold blkL
  simp only [List.length_map, List.length_range]
  exact info64s
theorem StRow.range {E : Env} {w : World} {p : Nat} {s : W8} {R : Nat → Nat} {n : Nat} (h : StRow E w p s R n) : w.rangeAt p 0 (stL s R n) := by
  intro j v hj
  have hl : j < 73 := by
    have := (List.getElem?_eq_some_iff.1 hj).1
    simpa [stL] using this
  rw [Nat.zero_add, StRow.part h j (by rw [stA_size]; exact hl)]
  unfold stA
  rw [List.getElem?_toArray]
  exact hj
/-- sixty-four bytes from a place on -/
theorem blk_range {w : World} {g o : Nat} {B : Nat → Nat} (h : ∀ i, i < 64 → w.cell? ⟨g, o + i, none⟩ = some (.int .u8 (B i))) : w.rangeAt g o (blkL B) := by
  intro j v hj
  have hl : j < 64 := by
    have := (List.getElem?_eq_some_iff.1 hj).1
    simpa [blkL] using this
  rw [h j hl]
  unfold blkL at hj
  rw [List.getElem?_map, List.getElem?_range hl] at hj
  exact hj

theorem cat_assoc (a m : Nat) (I X Y : Nat → Nat) : cat (a + m) (cat a I X) Y = cat a I (cat m X Y) := by
  funext i
  unfold cat
  by_cases h1 : i < a
  · rw [if_pos (by omega), if_pos h1, if_pos h1]
  · rw [if_neg h1]
    by_cases h2 : i - a < m
    · rw [if_pos (by omega), if_neg h1, if_pos h2]
    · rw [if_neg (by omega), if_neg h1, if_neg h2, show i - (a + m) = i - a - m by omega]

/-- the code of m bytes X under the block B -/
def hmac (B : Nat → Nat) (m : Nat) (X : Nat → Nat) : W8 := digest 96 (cat 64 (msk 92 B) (hb (digest (64 + m) (cat 64 (msk 54 B) X))))

end Go.Proofs.YtepeolbbplodfaaGreatDoor.Dg

/-
  mac: Copy.
-/
namespace Go.Proofs.YtepeolbbplodfaaGreatDoor.Dg
open Go.RowKit

theorem load64 {w : World} {g o : Nat} {B : Nat → Nat} (h : ∀ i, i < 64 → w.cell? ⟨g, o + i, none⟩ = some (.int .u8 (B i))) : (Instr.loadAt 156 (.pointer (some ⟨g, o, none⟩))).run Tryz.prog w = .ok (.agg (blkA B)) w :=
  run_loadAt_mid w g o 156 (blkL B) _ (blk_range h) Tryz.underlying156 rfl (blkL_len B)
theorem load73 {E : Env} {w : World} {p : Nat} {s : W8} {R : Nat → Nat} {n : Nat} (h : StRow E w p s R n) : (Instr.loadAt 158 (.pointer (some ⟨p, 0, none⟩))).run Tryz.prog w = .ok (.agg (stL s R n).toArray) w :=
  run_loadAt_mid w p 0 158 (stL s R n) _ (StRow.range h) Tryz.underlying158 rfl (stL_len s R n)

theorem yieldsIf_build {P : Program} {ops : Array Oper} {S : World → Prop} {op : Oper} {a : Act} (hw : Region.wanted op (yielded ops a.tmps) = true) (t : TypeId) (parts : Array (Nat × Operand)) (ho : op.op = .build t parts) (cells : Array Value)
    (hb : P.built t (parts.map fun (i, x) => (i, a.eval x)).toList = some cells) : YieldsIf P ops S op (.agg cells) a :=
  .inl ⟨hw, fun w _ => by
    unfold execOp
    simp only [ho, Sem.run_bind, run_build w t _ cells hb, Result.andThen_ok]
    rfl⟩
theorem wpAnyH_weaken {P : Program} {ops : Array Oper} {Q : Exit → Act → World → Prop} {md : Region.Mode} {S S' : World → Prop} (h : ∀ w, S' w → S w) : ∀ (fuel : Nat) (listed : Array Bool) (a : Act) (w : World), wpAnyH P md ops Q S' fuel listed a w → wpAnyH P md ops Q S fuel listed a w
  | 0, _, _, _, k => k
  | fuel + 1, _, _, _, k => ⟨k.1, fun i hi => wpOp_mono (fun a' w' h' => ⟨h w' h'.1, wpAnyH_weaken h fuel _ a' w' h'.2⟩) (k.2 i hi)⟩
end Go.Proofs.YtepeolbbplodfaaGreatDoor.Dg

/-
  What a new note comes to: the string's copy, its row, the map.
-/
namespace Go.Proofs.YtepeolbbplodfaaGreatDoor.Dg
open Go.RowKit Go.Sort Go.Maps

theorem info_map : Tryz.prog.underlying 91 = some (.map 31 27) := by kernel_rfl
theorem zeroBB (w : World) : (zeroValue 27).run Tryz.prog w = .ok nilS w := by kernel_rfl
/-- the look-up -/
theorem look {w : World} {bm : Nat} {F : Nat → Prop} {κ : List Nat → List Nat} {L : List (List Nat)} {D : DataW Value} {V : List Nat → Value} {n : Nat} (h : NotesX w bm F κ L D V n) {k : List Nat} (hk : IsH k) :
    (Instr.lookup 91 (.map (some bm)) (.agg (hA k)) false).run Tryz.prog w = .ok (V k) w := by
  obtain ⟨v, ps, hr, hv⟩ := h.map.lookup keyed info_map (zeroBB w) (zd := .held nilS) (zp := []) rfl (keyOf_hash hk)
  rw [h.val k hk] at hv
  have : v = V k := by
    simp only [holdR, Option.some.injEq, Prod.mk.injEq, DataW.held.injEq] at hv
    exact hv.1
  rw [hr, this]
theorem NotesX.below {w w' : World} {bm : Nat} {F : Nat → Prop} {κ : List Nat → List Nat} {L : List (List Nat)} {D : DataW Value} {V : List Nat → Value} {n : Nat} (h : NotesX w bm F κ L D V n) (hb : Below w.heap.size w w') : NotesX w' bm F κ L D V n :=
  h.turn (Turn.of_below hb (F := fun _ => False)) (fun _ _ _ q => q)
theorem own_base {w : World} {B e size n : Nat} {v : Value} {xs : List Value} (h : w.ownsRow B e size v n xs) : w.ownsRow 0 e size v n xs := by
  refine ⟨h.1, ?_⟩
  rcases h.2 with q | ⟨g, cap, cur, h1, _, h2⟩
  · exact Or.inl q
  · exact Or.inr ⟨g, cap, cur, h1, Nat.zero_le _, h2⟩
theorem own_below {w w' : World} {B e size n : Nat} {v : Value} {xs : List Value} (h : w.ownsRow B e size v n xs) (hb : Below w.heap.size w w') : w'.ownsRow B e size v n xs := own_turn h (Turn.of_below hb (F := fun _ => False)) (fun _ _ q => q)

structure AddF (W w8 : World) (bm : Nat) (F : Nat → Prop) (κ : List Nat → List Nat) (L : List (List Nat)) : Prop where
  notes : Notes w8 bm (fun i => F i ∨ (W.heap.size ≤ i ∧ i < w8.heap.size)) κ L
  turn : Turn F W w8

theorem add_insert {W w5 w7 : World} {bm : Nat} {F : Nat → Prop} {κ : List Nat → List Nat} {L : List (List Nat)} {D : DataW Value} {V : List Nat → Value} {n : Nat} {t : List Nat} {u v' : Value} {xs : List Value} (N : NotesX W bm F κ L D V n) (hk : IsH (κ t)) (htL : t ∉ L) (hbs : Bs t) (hroom : L.length ≤ 1099511627776)
    (ho5 : w5.ownsRow W.heap.size 5 1 u t.length (bv t)) (hb5 : Below W.heap.size W w5) (own : W.ownsRow 0 33 1 (V (κ t)) (grp κ L (κ t)).length xs) (st : Strs W F xs (grp κ L (κ t)))
    (hI : Inserted (w5.alloc (.cells #[u] 33)) w7 (V (κ t)) v' (grp κ L (κ t)).length (pos t (grp κ L (κ t))) xs u) :
    ∃ w8, (Instr.mapUpdate 91 (.map (some bm)) (.agg (hA (κ t))) v').run Tryz.prog w7 = .ok () w8 ∧ AddF W w8 bm F κ (ins t L) ∧ w7.grownBy w8 (some bm) := by
  have b6 : Below W.heap.size W (w5.alloc (.cells #[u] 33)) := hb5.alloc hb5.size _
  have t7 : Turn (fun i => (V (κ t)).ownBlock = some i) W w7 := (Turn.of_below b6).trans (Turn.of_grown hI.2.1 (F := fun i => (V (κ t)).ownBlock = some i) (fun k e => e)) (fun i q => Or.inl q)
  have m7 := map_turn N.map t7 (own_ne_map own N.map)
  have hn : n < maxLen := by have := N.room; unfold maxLen; omega
  obtain ⟨w8, hrun, m8, g8⟩ := m7.update keyed info_map hn (keyOf_hash hk) (rfl : holdR v' = some (.held v', []))
  refine ⟨w8, hrun, ⟨⟨_, _, _, N.store (F' := fun i => F i ∨ (W.heap.size ≤ i ∧ i < w8.heap.size)) htL hk (fun i q => Or.inl q) (fun i h1 h2 => Or.inr ⟨h1, h2⟩) t7 hI.1 ?_ ?_ m8 g8⟩, ?_⟩, g8⟩
  · rw [ins_at (ris_grp N.ris _) (fun q => htL (mem_grp.1 q).1)]
    have rowne : ∀ {q : Value} {s : List Nat} {B : Nat} (_ : W.ownsRow B 5 1 q s.length (bv s)) (g : Nat), q.ownBlock = some g → ¬ ((V (κ t)).ownBlock = some g) := fun hq g hg e => by
      obtain ⟨cur, hc⟩ := own_block own e
      exact own_ne_cells hq hc (by decide) hg
    have s7 : ∀ x ∈ xs, ∀ s, Str W F x s → Str w7 (fun i => F i ∨ (W.heap.size ≤ i ∧ i < w8.heap.size)) x s := fun x _ s hs =>
      ⟨own_turn hs.own t7 (rowne hs.own), fun g hg => Or.inl (hs.foot g hg), hs.ok⟩
    have st7 : Strs w7 (fun i => F i ∨ (W.heap.size ≤ i ∧ i < w8.heap.size)) xs (grp κ L (κ t)) := st.imp s7
    refine (st7.take _).app (.cons ?_ (st7.drop _))
    have ho6 : (w5.alloc (.cells #[u] 33)).ownsRow W.heap.size 5 1 u t.length (bv t) := ho5.alloc _
    have own6 : (w5.alloc (.cells #[u] 33)).ownsRow 0 33 1 (V (κ t)) (grp κ L (κ t)).length xs := own_below own b6
    have ho7 : w7.ownsRow W.heap.size 5 1 u t.length (bv t) := own_turn ho6 (Turn.of_grown hI.2.1 (F := fun i => (V (κ t)).ownBlock = some i) (fun k e => e)) (fun g hg e => by
      obtain ⟨cur, hc⟩ := own_block own6 e
      exact own_ne_cells ho6 hc (by decide) hg)
    refine ⟨own_base ho7, fun g hg => Or.inr ⟨(ho7.lt g hg).1, Nat.lt_of_lt_of_le (ho7.lt g hg).2 g8.size⟩, hbs⟩
  · rcases hI.2.2 with e | e
    · exact Or.inl e
    · exact Or.inr ⟨_, e, by rw [World.size_alloc]; have := hb5.size; omega⟩
  · exact (t7.mono (fun i q => Or.inl (N.rfoot _ i hk q))).trans (Turn.of_grown g8 (F := F) (fun k e => by rw [← Option.some.inj e]; exact N.foot)) (fun i q => Or.inl q)
end Go.Proofs.YtepeolbbplodfaaGreatDoor.Dg

/-
  notes: place, has, add, met.
-/
namespace Go.Proofs.YtepeolbbplodfaaGreatDoor.Dg
open Go.RowKit Go.Sort Go.Maps

/-- NOTES AS THEY STAND IN A STRUCT: the map's and the count's cell. -/
structure NAt (w : World) (p o bm : Nat) (F : Nat → Prop) (κ : List Nat → List Nat) (L : List (List Nat)) : Prop where
  map : w.cell? ⟨p, o, none⟩ = some (.map (some bm))
  cnt : w.cell? ⟨p, o + 1, none⟩ = some (.int .i64 (L.length : Nat))
  fz : w.frozen? ⟨p, o + 1, none⟩ = false
  notes : Notes w bm F κ L
  out : ¬ F p
  lim : ∀ i, F i → i < w.heap.size
theorem NAt.below {w w' : World} {p o bm : Nat} {F : Nat → Prop} {κ : List Nat → List Nat} {L : List (List Nat)} (h : NAt w p o bm F κ L) (hb : Below w.heap.size w w') : NAt w' p o bm F κ L := by
  have hp : p < w.heap.size := World.block_lt_of_cell? w ⟨p, o, none⟩ h.map
  refine ⟨(hb.cell (p := ⟨p, o, none⟩) hp).trans h.map, (hb.cell (p := ⟨p, o + 1, none⟩) hp).trans h.cnt, (World.frozen?_of_block (w := w) (hb.block p hp)).trans h.fz, h.notes.turn (Turn.of_below hb (F := fun _ => False)) (fun _ _ _ q => q), h.out, fun i q => Nat.lt_of_lt_of_le (h.lim i q) hb.size⟩
theorem hL_len {k : List Nat} (h : IsH k) : (Tryz.prog.info? 31).map (·.size) = some (bv k).length := by rw [bv_len, h.1]; exact info26
theorem range_box {w : World} {g : Nat} {k : List Nat} (h : w.heap[g]? = some (.cells (hA k) 31 (0, 0))) : w.rangeAt g 0 (bv k) := by
  intro j v hv
  rw [Nat.zero_add, cell_of_row w g j _ 31 _ h]
  unfold hA
  rw [List.getElem?_toArray]
  exact hv

theorem quiet_lookup {P : Program} {ops : Array Oper} {C : World → Prop} {Q : Act → Prop} {a : Act} {o : Oper} {rest : List Oper} (hw : Region.wanted o (yielded ops a.tmps) = true) (t : TypeId) (m x : Operand) (ho : o.op = .lookup t m x false)
    (vm vx v : Value) (hm : a.eval m = vm) (hx : a.eval x = vx) (hr : ∀ w, C w → (Instr.lookup t vm vx false).run P w = .ok v w) (h : wpQuiet P ops C Q rest (a.put o.dst v)) : wpQuiet P ops C Q (o :: rest) a := by
  refine wpQuiet_step fun K hK => ?_
  rw [if_pos hw]
  refine ⟨v, fun w hC => ?_, hK _ h⟩
  unfold Oper.quietAt execOp
  simp only [ho, hm, hx, Sem.run_bind, hr w hC, Sem.run_pure, Result.andThen_ok]
  exact ⟨rfl, rfl⟩

set_option maxRecDepth 100000 in
set_option maxHeartbeats 1600000 in
theorem place_any (w : World) (p o bm : Nat) (F : Nat → Prop) (κ : List Nat → List Nat) (L : List (List Nat)) (h : NAt w p o bm F κ L) (k : List Nat) (hk : IsH k) (hL : L.length ≤ 1099511627776)
    (a : Option Addr) (b off c : Nat) (t : List Nat) (ht : Vw w a b off t) :
    Calls Tryz.prog 67 #[.pointer (some ⟨p, o, none⟩), .agg (hA k), .slice a t.length c] w fun e w' => e = .returned (.tuple #[.int .i64 (pos t (grp κ L k) : Nat), .bool (decide (t ∈ grp κ L k))]) ∧ Below w.heap.size w w' := by
  have bs := hA_size hk
  have b1 : Below w.heap.size w (w.alloc (.cells (hA k) 31)) := (Below.refl _ _).alloc (Nat.le_refl _) _
  have h1 := h.below b1
  have hbx : (w.alloc (.cells (hA k) 31)).heap[w.heap.size]? = some (.cells (hA k) 31 (0, 0)) := heap_alloc_new _ _
  have ht1 := ht.below b1
  obtain ⟨w1, hw1⟩ : ∃ w1, w1 = w.alloc (.cells (hA k) 31) := ⟨_, rfl⟩
  rw [← hw1] at b1 h1 hbx ht1
  obtain ⟨D, V, n, N⟩ := h1.notes
  have hgl : (grp κ L k).length ≤ 1099511627776 := Nat.le_trans (List.length_filter_le _ _) hL
  obtain ⟨xs, own, st⟩ := N.row k hk
  have kb := fun (d : Nat) (os : Array Obj) => Calls.regrown_of (w := w1) (d := d) (os := os) ((bsearch_any (grow (redrawn w1 d) os) (V k) xs (grp κ L k) F (own_below own (below_regrown w1 d os)) (st.imp (fun u _ s hs => hs.turn (Turn.of_below (below_regrown w1 d os) (F := fun _ => False)) (fun _ _ _ f => f))) (ris_grp N.ris k) hgl a b off c t (ht1.below (below_regrown w1 d os))).mono fun e w' ⟨he, hw'⟩ => ⟨he, by rw [hw']; exact Below.refl _ _⟩)
  have hlk : ∀ w', (∃ r : Regrown, w' = grow (redrawn w1 r.d) r.os) → (Instr.lookup 91 (.map (some bm)) (.agg (hA k)) false).run Tryz.prog w' = .ok (V k) w' := by
    rintro _ ⟨r, rfl⟩
    exact look (N.below (below_regrown w1 r.d r.os)) hk
  have hc : ∀ w', (∃ r : Regrown, w' = grow (redrawn w1 r.d) r.os) → ∀ j, j < (hA k).size → w'.cell? ⟨w.heap.size, j, none⟩ = (hA k)[j]? := by
    rintro _ ⟨r, rfl⟩ j hj
    rw [cell_of_row _ _ _ _ 31 _ (((below_regrown w1 r.d r.os).block _ (by have := (Array.getElem?_eq_some_iff.1 hbx).1; exact this)).trans hbx)]
  have s1 := fun (d : Nat) (os : Array Obj) => cell_regrown h1.map d os
  obtain ⟨r1, hr1⟩ : ∃ r, r = pos t (grp κ L k) := ⟨_, rfl⟩
  obtain ⟨r2, hr2⟩ : ∃ r, r = decide (t ∈ grp κ L k) := ⟨_, rfl⟩
  rw [← hr1, ← hr2] at kb ⊢
  generalize t.length = m at kb ⊢
  have HB : Hid (Below w.heap.size w w1) := b1
  have HI : Hid ((Tryz.prog.info? 31).map (·.size) = some (hA k).size) := hA_info hk
  clear hr1 hr2 own st N h1 ht ht1 b1 h hbx hgl hL
  go_enter Tryz.func67, Tryz.ntmps67
  go_wp2_with fail
  rw [← hw1]
  clear hw1
  refine wp_region_quiet_below (by kernel_rfl) (by kernel_rfl) ?_
  iterate 4 (go_big_quiet_step (fail))
  refine quiet_load (by rfl) 31 (.tmp 4) (by rfl) w.heap.size (by rfl) (hA k) _ hc Tryz.underlying31 rfl HI.out ?_
  refine quiet_lookup (by rfl) 91 _ _ (by rfl) (.map (some bm)) (.agg (hA k)) (V k) (by rfl) (by rfl) hlk ?_
  repeat (first
    | go_big_quiet_step (first | (go_at_call 95; exact kb _ _))
    | quiet_step (first | (go_at_call 95; exact kb _ _)))
  refine wpQuiet_nil ?_
  intro w9 hw'
  obtain ⟨⟨dq, osq⟩, hw''⟩ := hw'
  have b9 := below_regrown w1 dq osq
  have HC : Hid (Below w.heap.size w w9) := by rw [hw'']; exact HB.out.trans (b9.mono HB.out.size)
  clear hw'' b9 kb hlk hc s1
  go_wp2_with fail
  go_ret2
  exact ⟨rfl, HC.out⟩
end Go.Proofs.YtepeolbbplodfaaGreatDoor.Dg

/-
  notes: has, add, met.
-/
namespace Go.Proofs.YtepeolbbplodfaaGreatDoor.Dg
open Go.RowKit Go.Sort Go.Maps

/-- WHAT add LEAVES: the notes with one more string; the count in the struct. -/
structure Added (w w' : World) (p o bm : Nat) (F : Nat → Prop) (κ : List Nat → List Nat) (L : List (List Nat)) : Prop where
  notes : ∃ F', (∀ i, F i → F' i) ∧ (∀ i, F' i → F i ∨ (w.heap.size ≤ i ∧ i < w'.heap.size)) ∧ Notes w' bm F' κ L
  turn : Turn (fun i => F i ∨ i = p) w w'
  self : ∀ T n f, w.rowIs p T n f → w'.rowIs p T n (fun i => if i = o + 1 then .int .i64 (L.length : Nat) else f i)

theorem own_slice {w : World} {B e n : Nat} {v : Value} {xs : List Value} (h : w.ownsRow B e 1 v n xs) : ∃ a c, v = .slice a n c := by
  rcases h.2 with ⟨rfl, h0⟩ | ⟨g, cap, cur, rfl, _⟩
  · exact ⟨none, 0, by rw [h0]⟩
  · exact ⟨_, cap, rfl⟩
theorem mem_grp_self {κ : List Nat → List Nat} {L : List (List Nat)} {t : List Nat} : t ∈ grp κ L (κ t) ↔ t ∈ L := by rw [mem_grp]; exact ⟨fun h => h.1, fun h => ⟨h, rfl⟩⟩

set_option maxRecDepth 100000 in
set_option maxHeartbeats 4000000 in
theorem add_any (w : World) (p o bm : Nat) (F : Nat → Prop) (κ : List Nat → List Nat) (L : List (List Nat)) (h : NAt w p o bm F κ L) (hL : L.length ≤ 549755813888)
    (a : Option Addr) (b off c : Nat) (t : List Nat) (ht : Vw w a b off t) (hk : IsH (κ t)) (hs : t.length ≤ 140737488355328) :
    Calls Tryz.prog 43 #[.pointer (some ⟨p, o, none⟩), .agg (hA (κ t)), .slice a t.length c] w fun e w' => e = .returned (.tuple #[]) ∧ Added w w' p o bm F κ (ins t L) := by
  have bs := hA_size hk
  have b1 : Below w.heap.size w (w.alloc (.cells (hA (κ t)) 31)) := (Below.refl _ _).alloc (Nat.le_refl _) _
  have hp : p < w.heap.size := World.block_lt_of_cell? w ⟨p, o, none⟩ h.map
  have h1 := h.below b1
  have pl := place_any _ p o bm F κ L h1 (κ t) hk (by omega) a b off c t (ht.below b1)
  have hmem : decide (t ∈ grp κ L (κ t)) = decide (t ∈ L) := by
    by_cases q : t ∈ L
    · rw [decide_eq_true q, decide_eq_true (mem_grp_self.2 q)]
    · rw [decide_eq_false q, decide_eq_false (fun z => q (mem_grp_self.1 z))]
  rw [hmem] at pl
  obtain ⟨r1, hr1⟩ : ∃ r, r = pos t (grp κ L (κ t)) := ⟨_, rfl⟩
  have Hr1 : Hid (r1 = pos t (grp κ L (κ t))) := hr1
  rw [← hr1] at pl
  obtain ⟨m, hm⟩ : ∃ m, m = t.length := ⟨_, rfl⟩
  have Hm : Hid (m = t.length) := hm
  rw [← hm] at pl hs ⊢
  have hi := hA_info hk
  have hg : (w.alloc (.cells (hA (κ t)) 31)).heap[w.heap.size]? = some (.cells (hA (κ t)) 31 (0, 0)) := heap_alloc_new _ _
  have H1 : Hid (NAt (w.alloc (.cells (hA (κ t)) 31)) p o bm F κ L ∧ Vw (w.alloc (.cells (hA (κ t)) 31)) a b off t ∧ Below w.heap.size w (w.alloc (.cells (hA (κ t)) 31)) ∧ (w.alloc (.cells (hA (κ t)) 31)).heap[w.heap.size]? = some (.cells (hA (κ t)) 31 (0, 0))) := ⟨h1, ht.below b1, b1, hg⟩
  have H0 : Hid (NAt w p o bm F κ L) := h
  clear hr1 hm h h1 ht b1 hmem
  by_cases htL : t ∈ L
  · rw [decide_eq_true htL] at pl
    have Htl : Hid (t ∈ L) := htL
    clear htL
    go_enter Tryz.func43, Tryz.ntmps43
    go_wp2_with (first
      | refine wpList_load_row (by rfl) 31 (.tmp 4) (by rfl) w.heap.size (by rfl) 31 (hA (κ t)) (0, 0) _ hg Tryz.underlying31 (by rfl) hi ?_
      | (go_at_call 67; refine pl.mono ?_; rintro _ w2 ⟨rfl, hb2⟩; have HC : Hid (Below w.heap.size w w2) := ch H1.out.2.2.1 hb2; clear hb2))
    refine bodyPost_ret (results_none rfl _ _ _) rfl ?_
    refine ⟨rfl, ?_⟩
    have hN := H0.out.notes
    obtain ⟨D, V, n, N⟩ := hN
    rw [ins_mem N.ris Htl.out]
    refine ⟨⟨F, fun _ q => q, fun i q => Or.inl q, (H0.out.below HC.out).notes⟩, Turn.of_below HC.out, fun T n' f hf => ?_⟩
    refine (hf.of_block (HC.out.block p hp)).congr (fun i hi' => ?_)
    by_cases e : i = o + 1
    · rw [if_pos e, e]
      have := hf.cell (i := o + 1) (e ▸ hi')
      rw [H0.out.cnt] at this
      exact (Option.some.inj this).symm
    · rw [if_neg e]
  · rw [decide_eq_false htL] at pl
    have Htl : Hid (¬ t ∈ L) := htL
    clear htL
    go_enter Tryz.func43, Tryz.ntmps43
    go_wp2_with (first
      | refine wpList_load_row (by rfl) 31 (.tmp 4) (by rfl) w.heap.size (by rfl) 31 (hA (κ t)) (0, 0) _ hg Tryz.underlying31 (by rfl) hi ?_
      | (go_at_call 67; refine pl.mono ?_; rintro _ w2 ⟨rfl, hb2⟩; have HC2 : Hid (Below (w.alloc (.cells (hA (κ t)) 31)).heap.size (w.alloc (.cells (hA (κ t)) 31)) w2) := hb2; clear hb2))
    have hbx2 : w2.heap[w.heap.size]? = some (.cells (hA (κ t)) 31 (0, 0)) := (HC2.out.block _ (by simp)).trans H1.out.2.2.2
    have hbl : w.heap.size < w2.heap.size := (Array.getElem?_eq_some_iff.1 hbx2).1
    have h2 : NAt w2 p o bm F κ L := H1.out.1.below HC2.out
    have ht2 : Vw w2 a b off t := H1.out.2.1.below HC2.out
    have hp2 : p < w2.heap.size := by omega
    obtain ⟨D, V, n, N⟩ := h2.notes
    obtain ⟨xs, own, st⟩ := N.row (κ t) hk
    have bd : Below w2.heap.size w2 w2.drew := (Below.refl _ _).drew
    have cl := clone_any w2.drew a b off c t (ht2.below bd) (by rw [← Hm.out]; exact hs)
    rw [← Hm.out] at cl
    have HP : Hid ((∀ w', Below w2.heap.size w2 w' → (Instr.lookup 91 (.map (some bm)) (.agg (bv (κ t)).toArray) false).run Tryz.prog w' = .ok (V (κ t)) w') ∧ (∀ w', Below w2.heap.size w2 w' → w'.cell? ⟨p, o, none⟩ = some (.map (some bm))) ∧ (∀ w', Below w2.heap.size w2 w' → w'.rangeAt w.heap.size 0 (bv (κ t)))) :=
      ⟨fun w' hb => look (N.below hb) hk, fun w' hb => (h2.below hb).map, fun w' hb => range_box ((hb.block _ hbl).trans hbx2)⟩
    have glen : (grp κ L (κ t)).length ≤ L.length := List.length_filter_le _ _
    have HT : Hid ((∀ (w5 : World) (u : Value), w5.ownsRow w2.heap.size 5 1 u m (bv t) → Below w2.heap.size w2 w5 → Calls Tryz.prog 68 #[V (κ t), .int .i64 r1, .slice (some ⟨w5.heap.size, 0, none⟩) 1 1] (w5.alloc (.cells #[u] 33)) fun e w' => ∃ v', e = .returned v' ∧ Inserted (w5.alloc (.cells #[u] 33)) w' (V (κ t)) v' (grp κ L (κ t)).length r1 xs u) ∧
        (∀ (w5 w7 : World) (u v' : Value), Below w2.heap.size w2 w5 → Inserted (w5.alloc (.cells #[u] 33)) w7 (V (κ t)) v' (grp κ L (κ t)).length r1 xs u → w7.cell? ⟨p, o, none⟩ = some (.map (some bm)) ∧ w7.rangeAt w.heap.size 0 (bv (κ t))) ∧
        (∀ (w5 w7 : World) (u v' : Value), w5.ownsRow w2.heap.size 5 1 u m (bv t) → Below w2.heap.size w2 w5 → Inserted (w5.alloc (.cells #[u] 33)) w7 (V (κ t)) v' (grp κ L (κ t)).length r1 xs u → ∃ w8, (Instr.mapUpdate 91 (.map (some bm)) (.agg (bv (κ t)).toArray) v').run Tryz.prog w7 = .ok () w8 ∧ AddF w2 w8 bm F κ (ins t L) ∧ w7.grownBy w8 (some bm))) := by
      refine ⟨fun w5 u ho5 hb5 => ?_, fun w5 w7 u v' hb5 hI => ?_, fun w5 w7 u v' ho5 hb5 hI => ?_⟩
      · have b6 : Below w2.heap.size w2 (w5.alloc (.cells #[u] 33)) := hb5.alloc hb5.size _
        have own6 := own_below own b6
        refine insert_any _ _ _ r1 xs u w5.heap.size own6 (by rw [Hr1.out]; exact pos_le _ _) (fun x hx => ?_) ?_ (heap_alloc_new _ _) (fun e => ?_) (by omega)
        · obtain ⟨s, hs'⟩ := st.all x hx
          exact hs'.one
        · rcases ho5.2 with ⟨rfl, _⟩ | ⟨_, _, _, rfl, _⟩ <;> rfl
        · have := (own.lt _ e).2
          have := hb5.size
          omega
      · have b6 : Below w2.heap.size w2 (w5.alloc (.cells #[u] 33)) := hb5.alloc hb5.size _
        have hne : ∀ q, q < w2.heap.size → (∀ z, (V (κ t)).ownBlock = some z → z ≠ q) → w7.heap[q]? = w2.heap[q]? := fun q hq hz =>
          (hI.2.1.block q (Nat.lt_of_lt_of_le hq b6.size) (fun e => hz q e.symm rfl)).trans (b6.block q hq)
        have hpq := hne p hp2 (fun z hz e => h2.out (e ▸ N.rfoot _ z hk hz))
        have hbq := hne w.heap.size hbl (fun z hz e => by
          obtain ⟨cur, hc⟩ := own_block own hz
          rw [e, hbx2] at hc
          injection hc with hc
          injection hc with _ h2'
          exact absurd h2' (by decide))
        exact ⟨(World.cell?_of_block (w := w2) hpq).trans h2.map, range_box (hbq.trans hbx2)⟩
      · have := add_insert N hk Htl.out (vw_ok ht2) (by omega) (by rw [← Hm.out]; exact ho5) hb5 own st (by rw [← Hr1.out]; exact hI)
        exact this
    have hFb : ∀ q, F q → w.heap.size ≠ q := fun q hq e => by
      have := H0.out.lim q hq
      omega
    have HZ : Hid (∀ w8, Turn F w2 w8 → w8.cell? ⟨p, o, none⟩ = some (.map (some bm)) ∧ w8.rangeAt w.heap.size 0 (bv (κ t))) := fun w8 tn =>
      ⟨(tn.cell (q := ⟨p, o, none⟩) hp2 h2.out).trans h2.map, range_box ((tn.block _ hbl (fun f => hFb _ f rfl)).trans hbx2)⟩
    have HY : Hid (∀ w8, Turn F w2 w8 → w8.cell? ⟨p, o + 1, none⟩ = some (.int .i64 (L.length : Nat))) := fun w8 tn => (tn.cell (q := ⟨p, o + 1, none⟩) hp2 h2.out).trans h2.cnt
    have HY2 : Hid (∀ w8, Turn F w2 w8 → w8.frozen? ⟨p, o + 1, none⟩ = false) := fun w8 tn => (World.frozen?_of_block (w := w2) (tn.block p hp2 h2.out)).trans h2.fz
    have b2 : Below w.heap.size w w2 := ch H1.out.2.2.1 HC2.out
    have HQ : Hid (∀ w8, AddF w2 w8 bm F κ (ins t L) → Added w (w8.setCell ⟨p, o + 1, none⟩ (.int .i64 ((L.length : Int) + 1))) p o bm F κ (ins t L)) := fun w8 ad => by
      have hlen := ins_length Htl.out
      obtain ⟨D8, V8, n8, N8⟩ := ad.notes
      have tc : Turn (fun i => i = p) w8 (w8.setCell ⟨p, o + 1, none⟩ (.int .i64 ((L.length : Int) + 1))) := Turn.setCell w8 _ _ rfl
      refine ⟨⟨_, fun i q => Or.inl q, fun i q => ?_, ⟨D8, V8, n8, N8.turn tc (fun i q _ e => ?_)⟩⟩, ?_, fun T n' f hf => ?_⟩
      · rcases q with q | ⟨q1, q2⟩
        · exact Or.inl q
        · exact Or.inr ⟨Nat.le_trans b2.size q1, by simpa [World.setCell] using q2⟩
      · subst e
        rcases q with q | ⟨q1, _⟩
        · exact h2.out q
        · omega
      · exact ((Turn.of_below b2 (F := fun i => F i ∨ i = p)).trans ad.turn (fun i q => Or.inl (Or.inl q))).trans tc (fun i q => Or.inl (Or.inr q))
      · have e8 : w8.heap[p]? = w.heap[p]? := (ad.turn.block p hp2 h2.out).trans (b2.block p hp)
        refine ((hf.of_block e8).set (o + 1) _).congr (fun i _ => ?_)
        by_cases e : i = o + 1
        · rw [if_pos e, if_pos e, hlen]
          rfl
        · rw [if_neg e, if_neg e]
    have s0 : w2.drew.cell? ⟨p, o, none⟩ = some (.map (some bm)) ∧ w2.drew.rangeAt w.heap.size 0 (bv (κ t)) := ⟨HP.out.2.1 _ bd, HP.out.2.2 _ bd⟩
    have HN : Hid (Notes w2 bm F κ L) := h2.notes
    clear own st N h2 ht2 hbx2 hbl hp2 b2 hFb glen pl hg
    refine wp_region_held_drew (S := fun w' => w'.cell? ⟨p, o, none⟩ = some (.map (some bm)) ∧ w'.rangeAt w.heap.size 0 (bv (κ t))) (by kernel_rfl) s0 ?_
    intro hS
    clear s0
    change wpAnyH _ _ _ _ _ 17 _ _ _
    refine wpAnyH_take (i := 0) (v := ?_) (by simp only [List.getElem?_toArray, List.getElem?_cons_zero]; rfl) (by kernel_rfl) (by kernel_rfl) (by kernel_rfl) (by exact fun _ _ _ h => h) (Or.inl ⟨by rfl, ?_⟩) hS ?_
    rotate_left
    · intro w' hS'
      have hm := hS'.1
      go_simp
      try with_reducible rfl
    refine wpAnyH_take (i := 1) (v := ?_) (by simp only [List.getElem?_toArray, List.getElem?_cons_zero, List.getElem?_cons_succ]; rfl) (by kernel_rfl) (by kernel_rfl) (by kernel_rfl) (by exact fun _ _ _ h => h) (Or.inl ⟨by rfl, ?_⟩) hS ?_
    rotate_left
    · intro w' hS'
      have hm := hS'.1
      go_simp
      try with_reducible rfl
    refine wpAnyH_take (i := 2) (v := ?_) (by simp only [List.getElem?_toArray, List.getElem?_cons_zero, List.getElem?_cons_succ]; rfl) (by kernel_rfl) (by kernel_rfl) (by kernel_rfl) (by exact fun _ _ _ h => h) (Or.inl ⟨by rfl, ?_⟩) hS ?_
    rotate_left
    · intro w' hS'
      have hm := hS'.1
      go_simp
      try with_reducible rfl
    refine wpAnyH_take (i := 3) (v := ?_) (by simp only [List.getElem?_toArray, List.getElem?_cons_zero, List.getElem?_cons_succ]; rfl) (by kernel_rfl) (by kernel_rfl) (by kernel_rfl) (by exact fun _ _ _ h => h) (Or.inl ⟨by rfl, ?_⟩) hS ?_
    rotate_left
    · intro w' hS'
      have hm := hS'.1
      go_simp
      try with_reducible rfl
    refine wpAnyH_take (i := 4) (by simp only [List.getElem?_toArray, List.getElem?_cons_zero, List.getElem?_cons_succ]; rfl) (by kernel_rfl) (by kernel_rfl) (by kernel_rfl) (by exact fun _ _ _ h => h) (yieldsIf_load_mid (by rfl) _ _ rfl _ _ rfl _ _ (fun _ h => h.2) Tryz.underlying31 rfl (hL_len hk)) hS ?_
    try simp only [Act.put, List.setIfInBounds_toArray, List.set_cons_zero, List.set_cons_succ]
    refine wpAnyH_take (i := 5) (v := ?_) (by simp only [List.getElem?_toArray, List.getElem?_cons_zero, List.getElem?_cons_succ]; rfl) (by kernel_rfl) (by kernel_rfl) (by kernel_rfl) (by exact fun _ _ _ h => h) (Or.inl ⟨by rfl, ?_⟩) hS ?_
    rotate_left
    · intro w' hS'
      have hm := hS'.1
      go_simp
      try with_reducible rfl
    refine wpAnyH_take (i := 6) (v := ?_) (by simp only [List.getElem?_toArray, List.getElem?_cons_zero, List.getElem?_cons_succ]; rfl) (by kernel_rfl) (by kernel_rfl) (by kernel_rfl) (by exact fun _ _ _ h => h) (Or.inl ⟨by rfl, ?_⟩) hS ?_
    rotate_left
    · intro w' hS'
      have hm := hS'.1
      go_simp
      try with_reducible rfl
    refine wpAnyH_take (i := 7) (v := ?_) (by simp only [List.getElem?_toArray, List.getElem?_cons_zero, List.getElem?_cons_succ]; rfl) (by kernel_rfl) (by kernel_rfl) (by kernel_rfl) (by exact fun _ _ _ h => h) (Or.inl ⟨by rfl, ?_⟩) hS ?_
    rotate_left
    · intro w' hS'
      have hm := hS'.1
      go_simp
      try with_reducible rfl
    try simp only [Act.put, List.setIfInBounds_toArray, List.set_cons_zero, List.set_cons_succ]
    refine wpAnyH_take (i := 8) (v := ?_) (by simp only [List.getElem?_toArray, List.getElem?_cons_zero, List.getElem?_cons_succ]; rfl) (by kernel_rfl) (by kernel_rfl) (by kernel_rfl) (by exact fun _ _ _ h => h) (Or.inl ⟨by rfl, ?_⟩) hS ?_
    rotate_left
    · intro w' hS'
      have hm := hS'.1
      go_simp
      try with_reducible rfl
    refine wpAnyH_take (i := 9) (by simp only [List.getElem?_toArray, List.getElem?_cons_zero, List.getElem?_cons_succ]; rfl) (by kernel_rfl) (by kernel_rfl) (by kernel_rfl) (by exact fun _ _ _ h => h) (yieldsIf_load_mid (by rfl) _ _ rfl _ _ rfl _ _ (fun _ h => h.2) Tryz.underlying31 rfl (hL_len hk)) hS ?_
    try simp only [Act.put, List.setIfInBounds_toArray, List.set_cons_zero, List.set_cons_succ]
    refine wpAnyH_take (i := 11) (v := ?_) (by simp only [List.getElem?_toArray, List.getElem?_cons_zero, List.getElem?_cons_succ]; rfl) (by kernel_rfl) (by kernel_rfl) (by kernel_rfl) (by exact fun _ _ _ h => h) (Or.inl ⟨by rfl, ?_⟩) hS ?_
    rotate_left
    · intro w' hS'
      have hm := hS'.1
      go_simp
      try with_reducible rfl
    refine wpAnyH_take (i := 12) (v := ?_) (by simp only [List.getElem?_toArray, List.getElem?_cons_zero, List.getElem?_cons_succ]; rfl) (by kernel_rfl) (by kernel_rfl) (by kernel_rfl) (by exact fun _ _ _ h => h) (Or.inl ⟨by rfl, ?_⟩) hS ?_
    rotate_left
    · intro w' hS'
      have hm := hS'.1
      go_simp
      try with_reducible rfl
    try simp only [Act.put, List.setIfInBounds_toArray, List.set_cons_zero, List.set_cons_succ]
    refine wpAnyH_ready (rs := [10, 13]) (by kernel_rfl) (by simp) ?_
    refine AllReadyH.cons (by simp only [List.getElem?_toArray, List.getElem?_cons_zero, List.getElem?_cons_succ]; rfl) (fun K hK => ?_) (AllReadyH.cons (by simp only [List.getElem?_toArray, List.getElem?_cons_zero, List.getElem?_cons_succ]; rfl) (fun K hK => ?_) AllReadyH.nil)
    · have hlk := HP.out.1 w2.drew bd
      go_simp
      refine hK.out _ _ ⟨(HP.out.2.1 _ bd), (HP.out.2.2 _ bd)⟩ (fun _ => ?_)
      clear hK K hlk
      try simp only [Act.put, List.setIfInBounds_toArray, List.set_cons_zero, List.set_cons_succ]
      refine wpAnyH_ready (rs := [13]) (by kernel_rfl) (by simp) ?_
      refine AllReadyH.cons (by simp only [List.getElem?_toArray, List.getElem?_cons_zero, List.getElem?_cons_succ]; rfl) (fun K hK => ?_) AllReadyH.nil
      go_simp
      refine cl.mono ?_
      rintro _ w5 ⟨u, rfl, ho5, hb5⟩
      obtain ⟨ua, uc, rfl⟩ := own_slice ho5
      have HC : Hid (w5.ownsRow w2.heap.size 5 1 (.slice ua m uc) m (bv t) ∧ Below w2.heap.size w2 w5) := ⟨ho5, Below.trans bd hb5⟩
      refine hK.out _ _ ⟨(HP.out.2.1 w5 HC.out.2), (HP.out.2.2 w5 HC.out.2)⟩ (fun _ => ?_)
      clear hK K ho5 hb5
      try simp only [Act.put, List.setIfInBounds_toArray, List.set_cons_zero, List.set_cons_succ]
      refine wpAnyH_ready (rs := [14]) (by kernel_rfl) (by simp) ?_
      refine AllReadyH.cons (by simp only [List.getElem?_toArray, List.getElem?_cons_zero, List.getElem?_cons_succ]; rfl) (fun K hK => ?_) AllReadyH.nil
      go_simp
      have HD : Hid (Below w2.heap.size w2 (w5.alloc (.cells #[.slice ua m uc] 33))) := HC.out.2.alloc HC.out.2.size _
      refine hK.out _ _ ⟨(HP.out.2.1 _ HD.out), (HP.out.2.2 _ HD.out)⟩ (fun _ => ?_)
      clear hK K
      try simp only [Act.put, List.setIfInBounds_toArray, List.set_cons_zero, List.set_cons_succ]
      refine wpAnyH_ready (rs := [15]) (by kernel_rfl) (by simp) ?_
      refine AllReadyH.cons (by simp only [List.getElem?_toArray, List.getElem?_cons_zero, List.getElem?_cons_succ]; rfl) (fun K hK => ?_) AllReadyH.nil
      go_simp
      have ci := HT.out.1 w5 _ HC.out.1 HC.out.2
      refine ci.mono ?_
      rintro _ w7 ⟨v', rfl, hI⟩
      have HI : Hid (Inserted (w5.alloc (.cells #[.slice ua m uc] 33)) w7 (V (κ t)) v' (grp κ L (κ t)).length r1 xs (.slice ua m uc)) := hI
      refine hK.out _ _ (HT.out.2.1 w5 w7 _ v' HC.out.2 HI.out) (fun _ => ?_)
      clear hK K hI ci
      refine wpAnyH_ready (rs := [16]) (by kernel_rfl) (by simp) ?_
      refine AllReadyH.cons (by simp only [List.getElem?_toArray, List.getElem?_cons_zero, List.getElem?_cons_succ]; rfl) (fun K hK => ?_) AllReadyH.nil
      obtain ⟨w8, hr8, ha8, hg8⟩ := HT.out.2.2 w5 w7 _ v' HC.out.1 HC.out.2 HI.out
      have HA : Hid (AddF w2 w8 bm F κ (ins t L)) := ha8
      go_simp
      refine hK.out _ _ (HZ.out w8 HA.out.turn) (fun _ => ?_)
      clear hK K hr8 ha8 hg8
      refine wpAnyH_done (by kernel_rfl) ?_ _
      try simp only [Act.put, List.setIfInBounds_toArray, List.set_cons_zero, List.set_cons_succ]
      have c8 := HY.out w8 HA.out.turn
      have f8 := HY2.out w8 HA.out.turn
      go_wp2
      go_end0
      exact ⟨rfl, HQ.out w8 HA.out⟩
    · go_simp
      refine cl.mono ?_
      rintro _ w5 ⟨u, rfl, ho5, hb5⟩
      obtain ⟨ua, uc, rfl⟩ := own_slice ho5
      have HC : Hid (w5.ownsRow w2.heap.size 5 1 (.slice ua m uc) m (bv t) ∧ Below w2.heap.size w2 w5) := ⟨ho5, Below.trans bd hb5⟩
      refine hK.out _ _ ⟨(HP.out.2.1 w5 HC.out.2), (HP.out.2.2 w5 HC.out.2)⟩ (fun _ => ?_)
      clear hK K ho5 hb5
      try simp only [Act.put, List.setIfInBounds_toArray, List.set_cons_zero, List.set_cons_succ]
      refine wpAnyH_ready (rs := [10, 14]) (by kernel_rfl) (by simp) ?_
      refine AllReadyH.cons (by simp only [List.getElem?_toArray, List.getElem?_cons_zero, List.getElem?_cons_succ]; rfl) (fun K hK => ?_) (AllReadyH.cons (by simp only [List.getElem?_toArray, List.getElem?_cons_zero, List.getElem?_cons_succ]; rfl) (fun K hK => ?_) AllReadyH.nil)
      · have hlk := HP.out.1 w5 HC.out.2
        go_simp
        refine hK.out _ _ ⟨(HP.out.2.1 _ HC.out.2), (HP.out.2.2 _ HC.out.2)⟩ (fun _ => ?_)
        clear hK K hlk
        try simp only [Act.put, List.setIfInBounds_toArray, List.set_cons_zero, List.set_cons_succ]
        refine wpAnyH_ready (rs := [14]) (by kernel_rfl) (by simp) ?_
        refine AllReadyH.cons (by simp only [List.getElem?_toArray, List.getElem?_cons_zero, List.getElem?_cons_succ]; rfl) (fun K hK => ?_) AllReadyH.nil
        go_simp
        have HD : Hid (Below w2.heap.size w2 (w5.alloc (.cells #[.slice ua m uc] 33))) := HC.out.2.alloc HC.out.2.size _
        refine hK.out _ _ ⟨(HP.out.2.1 _ HD.out), (HP.out.2.2 _ HD.out)⟩ (fun _ => ?_)
        clear hK K
        try simp only [Act.put, List.setIfInBounds_toArray, List.set_cons_zero, List.set_cons_succ]
        refine wpAnyH_ready (rs := [15]) (by kernel_rfl) (by simp) ?_
        refine AllReadyH.cons (by simp only [List.getElem?_toArray, List.getElem?_cons_zero, List.getElem?_cons_succ]; rfl) (fun K hK => ?_) AllReadyH.nil
        go_simp
        have ci := HT.out.1 w5 _ HC.out.1 HC.out.2
        refine ci.mono ?_
        rintro _ w7 ⟨v', rfl, hI⟩
        have HI : Hid (Inserted (w5.alloc (.cells #[.slice ua m uc] 33)) w7 (V (κ t)) v' (grp κ L (κ t)).length r1 xs (.slice ua m uc)) := hI
        refine hK.out _ _ (HT.out.2.1 w5 w7 _ v' HC.out.2 HI.out) (fun _ => ?_)
        clear hK K hI ci
        refine wpAnyH_ready (rs := [16]) (by kernel_rfl) (by simp) ?_
        refine AllReadyH.cons (by simp only [List.getElem?_toArray, List.getElem?_cons_zero, List.getElem?_cons_succ]; rfl) (fun K hK => ?_) AllReadyH.nil
        obtain ⟨w8, hr8, ha8, hg8⟩ := HT.out.2.2 w5 w7 _ v' HC.out.1 HC.out.2 HI.out
        have HA : Hid (AddF w2 w8 bm F κ (ins t L)) := ha8
        go_simp
        refine hK.out _ _ (HZ.out w8 HA.out.turn) (fun _ => ?_)
        clear hK K hr8 ha8 hg8
        refine wpAnyH_done (by kernel_rfl) ?_ _
        try simp only [Act.put, List.setIfInBounds_toArray, List.set_cons_zero, List.set_cons_succ]
        have c8 := HY.out w8 HA.out.turn
        have f8 := HY2.out w8 HA.out.turn
        go_wp2
        go_end0
        exact ⟨rfl, HQ.out w8 HA.out⟩
      · go_simp
        have HD : Hid (Below w2.heap.size w2 (w5.alloc (.cells #[.slice ua m uc] 33))) := HC.out.2.alloc HC.out.2.size _
        refine hK.out _ _ ⟨(HP.out.2.1 _ HD.out), (HP.out.2.2 _ HD.out)⟩ (fun _ => ?_)
        clear hK K
        try simp only [Act.put, List.setIfInBounds_toArray, List.set_cons_zero, List.set_cons_succ]
        refine wpAnyH_ready (rs := [10]) (by kernel_rfl) (by simp) ?_
        refine AllReadyH.cons (by simp only [List.getElem?_toArray, List.getElem?_cons_zero, List.getElem?_cons_succ]; rfl) (fun K hK => ?_) AllReadyH.nil
        have hlk := HP.out.1 _ HD.out
        go_simp
        refine hK.out _ _ ⟨(HP.out.2.1 _ HD.out), (HP.out.2.2 _ HD.out)⟩ (fun _ => ?_)
        clear hK K hlk
        try simp only [Act.put, List.setIfInBounds_toArray, List.set_cons_zero, List.set_cons_succ]
        refine wpAnyH_ready (rs := [15]) (by kernel_rfl) (by simp) ?_
        refine AllReadyH.cons (by simp only [List.getElem?_toArray, List.getElem?_cons_zero, List.getElem?_cons_succ]; rfl) (fun K hK => ?_) AllReadyH.nil
        go_simp
        have ci := HT.out.1 w5 _ HC.out.1 HC.out.2
        refine ci.mono ?_
        rintro _ w7 ⟨v', rfl, hI⟩
        have HI : Hid (Inserted (w5.alloc (.cells #[.slice ua m uc] 33)) w7 (V (κ t)) v' (grp κ L (κ t)).length r1 xs (.slice ua m uc)) := hI
        refine hK.out _ _ (HT.out.2.1 w5 w7 _ v' HC.out.2 HI.out) (fun _ => ?_)
        clear hK K hI ci
        refine wpAnyH_ready (rs := [16]) (by kernel_rfl) (by simp) ?_
        refine AllReadyH.cons (by simp only [List.getElem?_toArray, List.getElem?_cons_zero, List.getElem?_cons_succ]; rfl) (fun K hK => ?_) AllReadyH.nil
        obtain ⟨w8, hr8, ha8, hg8⟩ := HT.out.2.2 w5 w7 _ v' HC.out.1 HC.out.2 HI.out
        have HA : Hid (AddF w2 w8 bm F κ (ins t L)) := ha8
        go_simp
        refine hK.out _ _ (HZ.out w8 HA.out.turn) (fun _ => ?_)
        clear hK K hr8 ha8 hg8
        refine wpAnyH_done (by kernel_rfl) ?_ _
        try simp only [Act.put, List.setIfInBounds_toArray, List.set_cons_zero, List.set_cons_succ]
        have c8 := HY.out w8 HA.out.turn
        have f8 := HY2.out w8 HA.out.turn
        go_wp2
        go_end0
        exact ⟨rfl, HQ.out w8 HA.out⟩
end Go.Proofs.YtepeolbbplodfaaGreatDoor.Dg

/-
  Two hashes compared: mac.Equal and ==.
-/
namespace Go.Proofs.YtepeolbbplodfaaGreatDoor.Dg
open Go.RowKit

theorem arrA_hA {k : List Nat} (h : IsH k) : arrA (gd k) = hA k := by
  have e := hA_of (arrA_size (gd k)) (arrA_cell (gd k))
  rw [e]
  have := lst_of k
  rw [h.1] at this
  rw [this]
set_option maxRecDepth 100000 in
theorem eqH_any (w : World) (k k' : List Nat) (h : IsH k) (h' : IsH k') : (Op.equalIn 10000 31 (.agg (hA k)) (.agg (hA k'))).run Tryz.prog w = .ok (decide (k = k')) w := by
  have K : Tryz.prog.keyTypeAt 2 31 = true := by kernel_rfl
  have c1 : (Value.agg (hA k)).cells.toList = bv k := by simp [Value.cells, hA]
  have c2 : (Value.agg (hA k')).cells.toList = bv k' := by simp [Value.cells, hA]
  obtain ⟨r, hr, hiff⟩ := run_equalIn_deep 9998 2 31 K w 2 2 (.agg (hA k)) (.agg (hA k')) _ _ (formed_hash h) (formed_hash h') (by rw [c1]; exact lits_hash 0 h) (by rw [c2]; exact lits_hash 0 h')
  rw [hr]
  have e : k = k' ↔ r = true := by
    rw [hiff]
    constructor
    · intro e; rw [e]
    · intro e
      exact (List.map_inj_right (fun x y q => by injection q with _ q; omega)).1 e
  cases r with
  | true => rw [decide_eq_true (e.2 rfl)]
  | false => rw [decide_eq_false (fun q => by cases e.1 q)]
end Go.Proofs.YtepeolbbplodfaaGreatDoor.Dg

/-
  mac: New.
-/
namespace Go.Proofs.YtepeolbbplodfaaGreatDoor.Dg
open Go.RowKit

/-- sixty-four bytes in a block of their own -/
def BlkAt (w : World) (g : Nat) (B : Nat → Nat) : Prop := w.heap[g]? = some (.cells (blkA B) 156 (0, 0))
theorem BlkAt.lt {w : World} {g : Nat} {B : Nat → Nat} (h : BlkAt w g B) : g < w.heap.size := by
  by_cases e : g < w.heap.size
  · exact e
  · have hn : w.heap[g]? = none := by simp; omega
    unfold BlkAt at h
    rw [hn] at h
    cases h
theorem BlkAt.below {w w' : World} {g : Nat} {B : Nat → Nat} (h : BlkAt w g B) (hb : Below w.heap.size w w') : BlkAt w' g B := (hb.block g h.lt).trans h
theorem BlkAt.cells {w : World} {g : Nat} {B : Nat → Nat} (h : BlkAt w g B) : ∀ i, i < 64 → w.cell? ⟨g, 0 + i, none⟩ = some (.int .u8 (B i)) := fun i hi => by
  rw [Nat.zero_add, cell_of_row w g i _ 156 _ h, blkA_cell B i hi]
theorem BlkAt.range {w : World} {g : Nat} {B : Nat → Nat} (h : BlkAt w g B) : w.rangeAt g 0 (blkL B) := blk_range h.cells
theorem BlkAt.view {w : World} {g : Nat} {B : Nat → Nat} (h : BlkAt w g B) (hB : ∀ i, B i < 256) : View w (some ⟨g, 0, none⟩) g 0 64 (fun i => (B i : Int)) :=
  ⟨fun _ => rfl, h.cells, fun i _ => by have := hB i; omega, by omega⟩
theorem blk_laid (w : World) (B : Nat → Nat) : BlkAt ((w.alloc (.cells Y64 156)).setRow w.heap.size (blkA B)) w.heap.size B ∧ Below w.heap.size w ((w.alloc (.cells Y64 156)).setRow w.heap.size (blkA B)) :=
  ⟨setRow_heap _ _ _ _ _ _ (heap_alloc_new _ _), below_setRow ((Below.refl _ _).alloc (Nat.le_refl _) _) (Nat.le_refl _) _⟩

end Go.Proofs.YtepeolbbplodfaaGreatDoor.Dg

/-
  Lists cut, and bytes appended in a region that draws its order.
-/
namespace Go.Proofs.YtepeolbbplodfaaGreatDoor.Dg
open Go.RowKit

theorem elem24 : Tryz.prog.elem 33 = 5 := by kernel_rfl
theorem size5 (w : World) : (sizeOf 5).run Tryz.prog w = .ok 1 w := by
  have := info5size
  cases hq : Tryz.prog.info? 5 with
  | none => simp [hq] at this
  | some i => simp [hq] at this; simp [sizeOf, typeInfo, hq, this]
theorem slice_upto (a : Option Addr) (n c K : Nat) (h : K ≤ c) (w : World) : (Instr.slice 33 (.slice a n c) none (some (.int .i64 K)) none).run Tryz.prog w = .ok (.slice a K c) w := by
  rw [run_slice_h w 33 a n c (by rw [elem24]; exact Tryz.underlying33) .i64 K (by omega) (by omega), elem24, size5]
  simp only [Result.andThen, sliced]
  congr 1
  cases a <;> simp [Addr.add]
theorem sliceAt_upto (a : Option Addr) (n c K : Nat) (h : K ≤ c) (w : World) : (Instr.sliceAt 33 (.slice a n c) none (some (.int .i64 K)) none).run Tryz.prog w = .ok (.slice a K c) w := by
  rw [run_sliceAt_slice w 33 _ _ _ _ (by rw [elem24]; exact Tryz.underlying33), slice_upto a n c K h w]
/-- where a list begins behind its first K -/
def behind (a : Option Addr) (c K : Nat) : Option Addr := if c = K then a else a.map (·.add K)
theorem slice_from (a : Option Addr) (n c K : Nat) (h : K ≤ n) (w : World) : (Instr.slice 33 (.slice a n c) (some (.int .i64 K)) none none).run Tryz.prog w = .ok (.slice (behind a c K) (n - K) (c - K)) w := by
  rw [run_slice_l w 33 a n c (by rw [elem24]; exact Tryz.underlying33) .i64 K (by omega) (by omega), elem24, size5]
  simp only [Result.andThen, sliced, behind]
  simp
theorem sliceAt_from (a : Option Addr) (n c K : Nat) (h : K ≤ n) (w : World) : (Instr.sliceAt 33 (.slice a n c) (some (.int .i64 K)) none none).run Tryz.prog w = .ok (.slice (behind a c K) (n - K) (c - K)) w := by
  rw [run_sliceAt_slice w 33 _ _ _ _ (by rw [elem24]; exact Tryz.underlying33), slice_from a n c K h w]

/-- what is left of the bytes behind t of them -/
structure Left (w : World) (a : Option Addr) (b o N t c : Nat) (X : Nat → Nat) : Prop where
  view : View w a b (o + t) (N - t) (fun i => (X (t + i) : Int))
  cap : N - t ≤ c
  nil : a = none → c = 0
theorem Left.behind {w : World} {a : Option Addr} {b o N t c : Nat} {X : Nat → Nat} (h : Left w a b o N t c X) (n : Nat) (hn : n ≤ N - t) : Left w (behind a c n) b o N (t + n) (c - n) X := by
  have l := h.view.len
  have cp := h.cap
  refine ⟨⟨fun h0 => ?_, fun i hi => ?_, fun i hi => ?_, by omega⟩, by omega, fun e => ?_⟩
  · have ha := h.view.at_ (by omega)
    unfold Go.Proofs.YtepeolbbplodfaaGreatDoor.Dg.behind
    rw [if_neg (by omega), ha]
    simp only [Option.map_some, Option.some.injEq]
    rw [Go.WideShapes.add_plain]
    congr 1
    omega
  · have c1 := h.view.cell (n + i) (by omega)
    rw [show o + t + (n + i) = o + (t + n) + i by omega, show t + (n + i) = t + n + i by omega] at c1
    exact c1
  · have c1 := h.view.bd (n + i) (by omega)
    rw [show t + (n + i) = t + n + i by omega] at c1
    exact c1
  · unfold Go.Proofs.YtepeolbbplodfaaGreatDoor.Dg.behind at e
    split at e
    · have := h.nil e; omega
    · have : a = none := by cases a with | none => rfl | some x => cases e
      have := h.nil this
      omega
theorem Left.below {w w' : World} {a : Option Addr} {b o N t c : Nat} {X : Nat → Nat} (h : Left w a b o N t c X) (hb : Below w.heap.size w w') : Left w' a b o N t c X := ⟨h.view.below hb, h.cap, h.nil⟩

theorem jn_cut (mf : Nat → Nat) (X : Nat → Nat) : ∀ k i, i < tot mf k → jn mf (fun i j => X (tot mf i + j)) k i = X i
  | 0, i, h => by simp [tot] at h
  | k + 1, i, h => by
    simp only [jn]
    unfold cat
    by_cases hi : i < tot mf k
    · rw [if_pos hi, jn_cut mf X k i hi]
    · rw [if_neg hi]
      show X (tot mf k + (i - tot mf k)) = X i
      rw [show tot mf k + (i - tot mf k) = i by omega]
theorem own_some {w : World} {B n : Nat} {v : Value} {xs : List Value} (h : w.ownsRow B 5 1 v n xs) (hn : v ≠ .slice none 0 0) : ∃ g cap, v = .slice (some ⟨g, 0, none⟩) n cap ∧ n ≤ cap ∧ B ≤ g ∧ g < w.heap.size := by
  rcases h.2 with ⟨h0, _⟩ | ⟨g, cap, cur, hv, hB, hg, hc, _⟩
  · exact absurd h0 hn
  · have := h.lt g (by rw [hv]; rfl)
    exact ⟨g, cap, hv, hc, hB, this.2⟩

/-- bytes appended, as one step of a region that draws its order -/
theorem step_append_bytes {w : World} {ops : Array Oper} {o : Oper} {a : Act} {K : Act → World → Prop} {Q : Exit → Act → World → Prop} {E : Prop} (hgd : o.guard = none) (s x : Operand)
    (ho : o.op = .call { callee := .builtin .append, args := #[s, x], argTypes := #[33, 33] }) (base : Nat) (v : Value) (k : Nat) (xs : List Value) (hs : a.eval s = v) (hown : w.ownsRow base 5 1 v k xs)
    (sa : Option Addr) (b off n c : Nat) (Y : Nat → Int) (hx : a.eval x = .slice sa n c) (hv : View w sa b off n Y) (hnil : sa = none → c = 0) (hk : k + n ≤ 140737488355328) (hbase : base ≤ w.heap.size)
    (h : ∀ v' w', w'.ownsRow base 5 1 v' (k + n) (xs ++ vals Y n) → w.grownBy w' v.ownBlock → (v' = .slice none 0 0 → v = .slice none 0 0) → K (a.put o.dst v') w') : if Region.wanted o (yielded ops a.tmps) = true then Oper.wp Tryz.prog o a w K Q else E := by
  have hw : Region.wanted o (yielded ops a.tmps) = true := by simp [Region.wanted, hgd]
  rw [if_pos hw]
  obtain ⟨i0, hi0, hz0, hz1, hz2⟩ := info_parts Tryz.info5
  cases sa with
  | none =>
    have hn : n = 0 := by
      rcases Nat.eq_zero_or_pos n with e | e
      · exact e
      · cases hv.at_ e
    subst hn
    obtain rfl := hnil rfl
    have hrun := run_append_owned_none (P := Tryz.prog) (w := w) base 33 o.type 5 i0 1 Tryz.underlying33 hi0 v k xs hown
    unfold Oper.wp
    simp [execOp, ho, resolve, invoke, builtin, hs, hx, hrun, Result.andThen]
    refine h v w ?_ ⟨rfl, rfl, rfl, Nat.le_refl _, fun _ _ _ => rfl⟩ id
    simpa [vals] using hown
  | some p =>
    refine wp_append_own _ s x 33 ho base 5 i0 (.int .u8 0) 1 1 Tryz.underlying33 hi0 hz0 hz1 hz2 rfl (by decide) v k xs hs hown p n c (vals Y n) hx (by simp [vals]) ?_ vals_one (by unfold maxLen; omega) (by omega) hbase (fun v' w' h1 h2 h3 => h v' w' h1 h2 (fun e => (h3.1 e).1))
    intro j u hu
    obtain ⟨hj, rfl⟩ := vals_cell hu
    have hp : p = ⟨b, off, none⟩ := Option.some.inj (hv.at_ (by omega))
    subst hp
    rw [Go.WideShapes.add_plain]
    exact hv.cell j hj
end Go.Proofs.YtepeolbbplodfaaGreatDoor.Dg
