import Derived.Test.YtpmdjopojcgpeaaGreatDoorQRestq
import Derived.Test.YtpmdjopojcgpeaaGreatDoorQInsq
import Derived.Test.YtpmdjopojcgpeaaGreatDoorQLibCq
import Derived.Lib.QuietBelow
import Derived.Test.YtpmdjopojcgpeaaGreatDoorQNtsq
import Derived.Test.YtpmdjopojcgpeaaGreatDoorQEqAq
/-
  mac: the block of a secret.
-/
namespace Go.Proofs.YtpmdjopojcgpeaaGreatDoor.Dg
open Go.RowKit

/-- the builtin copy, of bytes, as one step of a region that draws its order -/
theorem step_copy_in {w : World} {ops : Array Oper} {o : Oper} {a : Act} {K : Act → World → Prop} {Q : Exit → Act → World → Prop} {E : Prop} (hgd : o.guard = none) (d s : Operand)
    (ho : o.op = .call { callee := .builtin .copy, args := #[d, s], argTypes := #[29, 29] })
    (g off dLen dCap t N : Nat) (f : Nat → Value) (hd : a.eval d = .slice (some ⟨g, off, none⟩) dLen dCap) (hr : w.rowIs g t N f) (hfit : off + dLen ≤ N)
    (sp : Option Addr) (b o2 m c : Nat) (Z : Nat → Int) (hs : a.eval s = .slice sp m c) (hv : View w sp b o2 m Z) (cnt : Nat) (hcnt : cnt = Nat.min m dLen)
    (h : ∀ w', Save g w w' → w'.rowIs g t N (fun i => if off ≤ i ∧ i < off + cnt then .int .u8 (Z (i - off)) else f i) → K (a.put o.dst (.int .i64 cnt)) w') :
    if Region.wanted o (yielded ops a.tmps) = true then Oper.wp Tryz.prog o a w K Q else E := by
  have hw : Region.wanted o (yielded ops a.tmps) = true := by simp [Region.wanted, hgd]
  rw [if_pos hw]
  obtain ⟨cur, hg, hsz, hc⟩ := hr
  have hle : cnt ≤ m ∧ cnt ≤ dLen := by rw [hcnt]; exact ⟨Nat.min_le_left _ _, Nat.min_le_right _ _⟩
  by_cases h0 : cnt = 0
  · subst h0
    have hrun := run_copy_none (P := Tryz.prog) w 29 29 o.type 5 (some ⟨g, off, none⟩) sp dLen dCap m c Tryz.underlying29 info5size hcnt.symm
    unfold Oper.wp
    simp [execOp, ho, resolve, invoke, builtin, hd, hs, hrun, Result.andThen]
    exact h w (Save.refl _ _) ⟨cur, hg, hsz, fun i hi => by show cur[i]? = some (if off ≤ i ∧ i < off + 0 then _ else f i); rw [if_neg (by omega)]; exact hc i hi⟩
  · obtain rfl := hv.at_ (by omega)
    have hl : ((List.range cnt).map (fun i => Value.int .u8 (Z i))).length = cnt := by simp
    have hrun := run_copy_row (P := Tryz.prog) w 29 29 o.type 5 g off dLen dCap ⟨b, o2, none⟩ m c cur t ((List.range cnt).map (fun i => Value.int .u8 (Z i))) Tryz.underlying29 info5size hg (by rw [hl, hcnt]) (by
      intro j v hj
      have hjl : j < cnt := by
        have := (List.getElem?_eq_some_iff.1 hj).1
        omega
      rw [List.getElem?_map, List.getElem?_range hjl] at hj
      have e : v = .int .u8 (Z j) := by simpa using hj.symm
      subst e
      rw [Go.WideShapes.add_plain]
      exact hv.cell j (by omega)) (by rw [hl, hsz]; omega) (by
      intro v hv'
      simp only [List.mem_map] at hv'
      obtain ⟨i, _, rfl⟩ := hv'
      rfl)
    have sp := splice_cell (Z := Z) hsz hc (by omega) _ rfl (cnt := cnt) (off := off)
    have hh := h (w.setRow g ((cur.toList.take off ++ (((List.range cnt).map (fun i => Value.int .u8 (Z i))) ++ cur.toList.drop (off + ((List.range cnt).map (fun i => Value.int .u8 (Z i))).length))).toArray)) ((Save.refl _ _).setRow _) (rowIs_setRow hg sp.1 sp.2)
    rw [hl] at hrun hh
    unfold Oper.wp
    simp only [execOp, ho, resolve, invoke, builtin]
    simp [hd, hs, hrun, Result.andThen]
    exact hh

/-- the block of a secret of n bytes S -/
def blk (n : Nat) (S : Nat → Nat) (i : Nat) : Nat := if n ≤ 64 then (if i < n then S i else 0) else if i < 32 then hb (digest n S) i else 0
theorem hb_lt (s : W8) (i : Nat) : hb s i < 256 := Nat.mod_lt _ (by decide)
theorem blk_lt {n : Nat} {S : Nat → Nat} (h : ∀ i, S i < 256) (i : Nat) : blk n S i < 256 := by
  unfold blk
  split
  · split
    · exact h i
    · omega
  · split
    · exact hb_lt _ _
    · omega

/-- two new blocks of zeros -/
structure BF (w w2 : World) : Prop where
  below : Below w.heap.size w w2
  size : w2.heap.size = w.heap.size + 2
  out : w2.heap[w.heap.size]? = some (.cells Y64 215 (0, 0))
  row : w2.rowIs (w.heap.size + 1) 215 64 (fun _ => .int .u8 0)
theorem bf_start (w : World) : BF w ((w.alloc (.cells Y64 215)).alloc (.cells Y64 215)) := by
  refine ⟨((Below.refl _ _).alloc (Nat.le_refl _) _).alloc (by simp) _, by simp, ?_, ?_⟩
  · rw [heap_alloc_old _ _ (by simp)]
    exact heap_alloc_new _ _
  · have := zeros_row (w.alloc (.cells Y64 215)) (.int .u8 0) 64 215
    rw [World.size_alloc] at this
    have e : Array.replicate 64 (Value.int .u8 0) = Y64 := Y64_rep.symm
    rw [e] at this
    exact this
theorem hash_view {w : World} {g : Nat} {s : W8} (h : HashAt w g s) : View w (some ⟨g, 0, none⟩) g 0 32 (fun i => ((hb s i : Nat) : Int)) :=
  ⟨fun _ => rfl, fun i hi => by rw [Nat.zero_add, h.cells i (by rw [hashA_size]; exact hi), hashA_cell s i hi], fun i _ => by have := hb_lt s i; omega, by omega⟩

end Go.Proofs.YtpmdjopojcgpeaaGreatDoor.Dg

/-
  mac: a code on its way, in memory.
-/
namespace Go.Proofs.YtpmdjopojcgpeaaGreatDoor.Dg
open Go.RowKit

def stL (s : W8) (R : Nat → Nat) (n : Nat) : List Value := (List.range 73).map (stc E0.tl s R n)
def blkL (B : Nat → Nat) : List Value := (List.range 64).map (fun i => Value.int .u8 (B i))
theorem stL_len (s : W8) (R : Nat → Nat) (n : Nat) : (Tryz.prog.info? 217).map (·.size) = some (stL s R n).length := by
  unfold stL
  simp only [List.length_map, List.length_range]
  exact (zero_of_info info54).2
theorem blkL_len (B : Nat → Nat) : (Tryz.prog.info? 215).map (·.size) = some (blkL B).length := by
  unfold blkL
  simp only [List.length_map, List.length_range]
  exact info64s
theorem StRow.range {E : Env} {w : World} {p : Nat} {s : W8} {R : Nat → Nat} {n : Nat} (h : StRow E w p s R n) : w.rangeAt p 0 (stL s R n) := by
  intro j v hj
  have hl : j < 73 := by
    have := (List.getElem?_eq_some_iff.1 hj).1
    simpa [stL] using this
  rw [Nat.zero_add, StRow.part h j (by rw [stA_size]; exact hl)]
  unfold stA
  rw [List.getElem?_toArray]
  exact hj
/-- sixty-four bytes from a place on -/
theorem blk_range {w : World} {g o : Nat} {B : Nat → Nat} (h : ∀ i, i < 64 → w.cell? ⟨g, o + i, none⟩ = some (.int .u8 (B i))) : w.rangeAt g o (blkL B) := by
  intro j v hj
  have hl : j < 64 := by
    have := (List.getElem?_eq_some_iff.1 hj).1
    simpa [blkL] using this
  rw [h j hl]
  unfold blkL at hj
  rw [List.getElem?_map, List.getElem?_range hl] at hj
  exact hj

theorem cat_assoc (a m : Nat) (I X Y : Nat → Nat) : cat (a + m) (cat a I X) Y = cat a I (cat m X Y) := by
  funext i
  unfold cat
  by_cases h1 : i < a
  · rw [if_pos (by omega), if_pos h1, if_pos h1]
  · rw [if_neg h1]
    by_cases h2 : i - a < m
    · rw [if_pos (by omega), if_neg h1, if_pos h2]
    · rw [if_neg (by omega), if_neg h1, if_neg h2, show i - (a + m) = i - a - m by omega]

/-- the code of m bytes X under the block B -/
def hmac (B : Nat → Nat) (m : Nat) (X : Nat → Nat) : W8 := digest 96 (cat 64 (msk 92 B) (hb (digest (64 + m) (cat 64 (msk 54 B) X))))

end Go.Proofs.YtpmdjopojcgpeaaGreatDoor.Dg

/-
  mac: Copy.
-/
namespace Go.Proofs.YtpmdjopojcgpeaaGreatDoor.Dg
open Go.RowKit

theorem load64 {w : World} {g o : Nat} {B : Nat → Nat} (h : ∀ i, i < 64 → w.cell? ⟨g, o + i, none⟩ = some (.int .u8 (B i))) : (Instr.loadAt 215 (.pointer (some ⟨g, o, none⟩))).run Tryz.prog w = .ok (.agg (blkA B)) w :=
  run_loadAt_mid w g o 215 (blkL B) _ (blk_range h) Tryz.underlying215 rfl (blkL_len B)
theorem load73 {E : Env} {w : World} {p : Nat} {s : W8} {R : Nat → Nat} {n : Nat} (h : StRow E w p s R n) : (Instr.loadAt 217 (.pointer (some ⟨p, 0, none⟩))).run Tryz.prog w = .ok (.agg (stL s R n).toArray) w :=
  run_loadAt_mid w p 0 217 (stL s R n) _ (StRow.range h) Tryz.underlying217 rfl (stL_len s R n)

theorem yieldsIf_build {P : Program} {ops : Array Oper} {S : World → Prop} {op : Oper} {a : Act} (hw : Region.wanted op (yielded ops a.tmps) = true) (t : TypeId) (parts : Array (Nat × Operand)) (ho : op.op = .build t parts) (cells : Array Value)
    (hb : P.built t (parts.map fun (i, x) => (i, a.eval x)).toList = some cells) : YieldsIf P ops S op (.agg cells) a :=
  .inl ⟨hw, fun w _ => by
    unfold execOp
    simp only [ho, Sem.run_bind, run_build w t _ cells hb, Result.andThen_ok]
    rfl⟩
theorem wpAnyH_weaken {P : Program} {ops : Array Oper} {Q : Exit → Act → World → Prop} {md : Region.Mode} {S S' : World → Prop} (h : ∀ w, S' w → S w) : ∀ (fuel : Nat) (listed : Array Bool) (a : Act) (w : World), wpAnyH P md ops Q S' fuel listed a w → wpAnyH P md ops Q S fuel listed a w
  | 0, _, _, _, k => k
  | fuel + 1, _, _, _, k => ⟨k.1, fun i hi => wpOp_mono (fun a' w' h' => ⟨h w' h'.1, wpAnyH_weaken h fuel _ a' w' h'.2⟩) (k.2 i hi)⟩
end Go.Proofs.YtpmdjopojcgpeaaGreatDoor.Dg

/-
  What a new note comes to: the string's copy, its row, the map.
-/
namespace Go.Proofs.YtpmdjopojcgpeaaGreatDoor.Dg
open Go.RowKit Go.Sort Go.Maps

theorem info_map : Tryz.prog.underlying 84 = some (.map 38 62) := by kernel_rfl
theorem zeroBB (w : World) : (zeroValue 62).run Tryz.prog w = .ok nilS w := by kernel_rfl
/-- the look-up -/
theorem look {w : World} {bm : Nat} {F : Nat → Prop} {κ : List Nat → List Nat} {L : List (List Nat)} {D : DataW Value} {V : List Nat → Value} {n : Nat} (h : NotesX w bm F κ L D V n) {k : List Nat} (hk : IsH k) :
    (Instr.lookup 84 (.map (some bm)) (.agg (hA k)) false).run Tryz.prog w = .ok (V k) w := by
  obtain ⟨v, ps, hr, hv⟩ := h.map.lookup keyed info_map (zeroBB w) (zd := .held nilS) (zp := []) rfl (keyOf_hash hk)
  rw [h.val k hk] at hv
  have : v = V k := by
    simp only [holdR, Option.some.injEq, Prod.mk.injEq, DataW.held.injEq] at hv
    exact hv.1
  rw [hr, this]
theorem NotesX.below {w w' : World} {bm : Nat} {F : Nat → Prop} {κ : List Nat → List Nat} {L : List (List Nat)} {D : DataW Value} {V : List Nat → Value} {n : Nat} (h : NotesX w bm F κ L D V n) (hb : Below w.heap.size w w') : NotesX w' bm F κ L D V n :=
  h.turn (Turn.of_below hb (F := fun _ => False)) (fun _ _ _ q => q)
theorem own_base {w : World} {B e size n : Nat} {v : Value} {xs : List Value} (h : w.ownsRow B e size v n xs) : w.ownsRow 0 e size v n xs := by
  refine ⟨h.1, ?_⟩
  rcases h.2 with q | ⟨g, cap, cur, h1, _, h2⟩
  · exact Or.inl q
  · exact Or.inr ⟨g, cap, cur, h1, Nat.zero_le _, h2⟩
theorem own_below {w w' : World} {B e size n : Nat} {v : Value} {xs : List Value} (h : w.ownsRow B e size v n xs) (hb : Below w.heap.size w w') : w'.ownsRow B e size v n xs := own_turn h (Turn.of_below hb (F := fun _ => False)) (fun _ _ q => q)

structure AddF (W w8 : World) (bm : Nat) (F : Nat → Prop) (κ : List Nat → List Nat) (L : List (List Nat)) : Prop where
  notes : Notes w8 bm (fun i => F i ∨ (W.heap.size ≤ i ∧ i < w8.heap.size)) κ L
  turn : Turn F W w8

theorem add_insert {W w5 w7 : World} {bm : Nat} {F : Nat → Prop} {κ : List Nat → List Nat} {L : List (List Nat)} {D : DataW Value} {V : List Nat → Value} {n : Nat} {t : List Nat} {u v' : Value} {xs : List Value} (N : NotesX W bm F κ L D V n) (hk : IsH (κ t)) (htL : t ∉ L) (hbs : Bs t) (hroom : L.length ≤ 1099511627776)
    (ho5 : w5.ownsRow W.heap.size 5 1 u t.length (bv t)) (hb5 : Below W.heap.size W w5) (own : W.ownsRow 0 29 1 (V (κ t)) (grp κ L (κ t)).length xs) (st : Strs W F xs (grp κ L (κ t)))
    (hI : Inserted (w5.alloc (.cells #[u] 29)) w7 (V (κ t)) v' (grp κ L (κ t)).length (pos t (grp κ L (κ t))) xs u) :
    ∃ w8, (Instr.mapUpdate 84 (.map (some bm)) (.agg (hA (κ t))) v').run Tryz.prog w7 = .ok () w8 ∧ AddF W w8 bm F κ (ins t L) ∧ w7.grownBy w8 (some bm) := by
  have b6 : Below W.heap.size W (w5.alloc (.cells #[u] 29)) := hb5.alloc hb5.size _
  have t7 : Turn (fun i => (V (κ t)).ownBlock = some i) W w7 := (Turn.of_below b6).trans (Turn.of_grown hI.2.1 (F := fun i => (V (κ t)).ownBlock = some i) (fun k e => e)) (fun i q => Or.inl q)
  have m7 := map_turn N.map t7 (own_ne_map own N.map)
  have hn : n < maxLen := by have := N.room; unfold maxLen; omega
  obtain ⟨w8, hrun, m8, g8⟩ := m7.update keyed info_map hn (keyOf_hash hk) (rfl : holdR v' = some (.held v', []))
  refine ⟨w8, hrun, ⟨⟨_, _, _, N.store (F' := fun i => F i ∨ (W.heap.size ≤ i ∧ i < w8.heap.size)) htL hk (fun i q => Or.inl q) (fun i h1 h2 => Or.inr ⟨h1, h2⟩) t7 hI.1 ?_ ?_ m8 g8⟩, ?_⟩, g8⟩
  · rw [ins_at (ris_grp N.ris _) (fun q => htL (mem_grp.1 q).1)]
    have rowne : ∀ {q : Value} {s : List Nat} {B : Nat} (_ : W.ownsRow B 5 1 q s.length (bv s)) (g : Nat), q.ownBlock = some g → ¬ ((V (κ t)).ownBlock = some g) := fun hq g hg e => by
      obtain ⟨cur, hc⟩ := own_block own e
      exact own_ne_cells hq hc (by decide) hg
    have s7 : ∀ x ∈ xs, ∀ s, Str W F x s → Str w7 (fun i => F i ∨ (W.heap.size ≤ i ∧ i < w8.heap.size)) x s := fun x _ s hs =>
      ⟨own_turn hs.own t7 (rowne hs.own), fun g hg => Or.inl (hs.foot g hg), hs.ok⟩
    have st7 : Strs w7 (fun i => F i ∨ (W.heap.size ≤ i ∧ i < w8.heap.size)) xs (grp κ L (κ t)) := st.imp s7
    refine (st7.take _).app (.cons ?_ (st7.drop _))
    have ho6 : (w5.alloc (.cells #[u] 29)).ownsRow W.heap.size 5 1 u t.length (bv t) := ho5.alloc _
    have own6 : (w5.alloc (.cells #[u] 29)).ownsRow 0 29 1 (V (κ t)) (grp κ L (κ t)).length xs := own_below own b6
    have ho7 : w7.ownsRow W.heap.size 5 1 u t.length (bv t) := own_turn ho6 (Turn.of_grown hI.2.1 (F := fun i => (V (κ t)).ownBlock = some i) (fun k e => e)) (fun g hg e => by
      obtain ⟨cur, hc⟩ := own_block own6 e
      exact own_ne_cells ho6 hc (by decide) hg)
    refine ⟨own_base ho7, fun g hg => Or.inr ⟨(ho7.lt g hg).1, Nat.lt_of_lt_of_le (ho7.lt g hg).2 g8.size⟩, hbs⟩
  · rcases hI.2.2 with e | e
    · exact Or.inl e
    · exact Or.inr ⟨_, e, by rw [World.size_alloc]; have := hb5.size; omega⟩
  · exact (t7.mono (fun i q => Or.inl (N.rfoot _ i hk q))).trans (Turn.of_grown g8 (F := F) (fun k e => by rw [← Option.some.inj e]; exact N.foot)) (fun i q => Or.inl q)
end Go.Proofs.YtpmdjopojcgpeaaGreatDoor.Dg

/-
  notes: place, has, add, met.
-/
namespace Go.Proofs.YtpmdjopojcgpeaaGreatDoor.Dg
open Go.RowKit Go.Sort Go.Maps

/-- NOTES AS THEY STAND IN A STRUCT: the map's and the count's cell. -/
structure NAt (w : World) (p o bm : Nat) (F : Nat → Prop) (κ : List Nat → List Nat) (L : List (List Nat)) : Prop where
  map : w.cell? ⟨p, o, none⟩ = some (.map (some bm))
  cnt : w.cell? ⟨p, o + 1, none⟩ = some (.int .i64 (L.length : Nat))
  fz : w.frozen? ⟨p, o + 1, none⟩ = false
  notes : Notes w bm F κ L
  out : ¬ F p
  lim : ∀ i, F i → i < w.heap.size
theorem NAt.below {w w' : World} {p o bm : Nat} {F : Nat → Prop} {κ : List Nat → List Nat} {L : List (List Nat)} (h : NAt w p o bm F κ L) (hb : Below w.heap.size w w') : NAt w' p o bm F κ L := by
  have hp : p < w.heap.size := World.block_lt_of_cell? w ⟨p, o, none⟩ h.map
  refine ⟨(hb.cell (p := ⟨p, o, none⟩) hp).trans h.map, (hb.cell (p := ⟨p, o + 1, none⟩) hp).trans h.cnt, (World.frozen?_of_block (w := w) (hb.block p hp)).trans h.fz, h.notes.turn (Turn.of_below hb (F := fun _ => False)) (fun _ _ _ q => q), h.out, fun i q => Nat.lt_of_lt_of_le (h.lim i q) hb.size⟩
theorem hL_len {k : List Nat} (h : IsH k) : (Tryz.prog.info? 38).map (·.size) = some (bv k).length := by rw [bv_len, h.1]; exact info26
theorem range_box {w : World} {g : Nat} {k : List Nat} (h : w.heap[g]? = some (.cells (hA k) 38 (0, 0))) : w.rangeAt g 0 (bv k) := by
  intro j v hv
  rw [Nat.zero_add, cell_of_row w g j _ 38 _ h]
  unfold hA
  rw [List.getElem?_toArray]
  exact hv

theorem quiet_lookup {P : Program} {ops : Array Oper} {C : World → Prop} {Q : Act → Prop} {a : Act} {o : Oper} {rest : List Oper} (hw : Region.wanted o (yielded ops a.tmps) = true) (t : TypeId) (m x : Operand) (ho : o.op = .lookup t m x false)
    (vm vx v : Value) (hm : a.eval m = vm) (hx : a.eval x = vx) (hr : ∀ w, C w → (Instr.lookup t vm vx false).run P w = .ok v w) (h : wpQuiet P ops C Q rest (a.put o.dst v)) : wpQuiet P ops C Q (o :: rest) a := by
  refine wpQuiet_step fun K hK => ?_
  rw [if_pos hw]
  refine ⟨v, fun w hC => ?_, hK _ h⟩
  unfold Oper.quietAt execOp
  simp only [ho, hm, hx, Sem.run_bind, hr w hC, Sem.run_pure, Result.andThen_ok]
  exact ⟨rfl, rfl⟩

set_option maxRecDepth 100000 in
set_option maxHeartbeats 1600000 in
theorem place_any (w : World) (p o bm : Nat) (F : Nat → Prop) (κ : List Nat → List Nat) (L : List (List Nat)) (h : NAt w p o bm F κ L) (k : List Nat) (hk : IsH k) (hL : L.length ≤ 1099511627776)
    (a : Option Addr) (b off c : Nat) (t : List Nat) (ht : Vw w a b off t) :
    Calls Tryz.prog 101 #[.pointer (some ⟨p, o, none⟩), .agg (hA k), .slice a t.length c] w fun e w' => e = .returned (.tuple #[.int .i64 (pos t (grp κ L k) : Nat), .bool (decide (t ∈ grp κ L k))]) ∧ Below w.heap.size w w' := by
  have bs := hA_size hk
  have b1 : Below w.heap.size w (w.alloc (.cells (hA k) 38)) := (Below.refl _ _).alloc (Nat.le_refl _) _
  have h1 := h.below b1
  have hbx : (w.alloc (.cells (hA k) 38)).heap[w.heap.size]? = some (.cells (hA k) 38 (0, 0)) := heap_alloc_new _ _
  have ht1 := ht.below b1
  obtain ⟨w1, hw1⟩ : ∃ w1, w1 = w.alloc (.cells (hA k) 38) := ⟨_, rfl⟩
  rw [← hw1] at b1 h1 hbx ht1
  obtain ⟨D, V, n, N⟩ := h1.notes
  have hgl : (grp κ L k).length ≤ 1099511627776 := Nat.le_trans (List.length_filter_le _ _) hL
  obtain ⟨xs, own, st⟩ := N.row k hk
  have kb := fun (d : Nat) (os : Array Obj) => Calls.regrown_of (w := w1) (d := d) (os := os) ((bsearch_any (grow (redrawn w1 d) os) (V k) xs (grp κ L k) F (own_below own (below_regrown w1 d os)) (st.imp (fun u _ s hs => hs.turn (Turn.of_below (below_regrown w1 d os) (F := fun _ => False)) (fun _ _ _ f => f))) (ris_grp N.ris k) hgl a b off c t (ht1.below (below_regrown w1 d os))).mono fun e w' ⟨he, hw'⟩ => ⟨he, by rw [hw']; exact Below.refl _ _⟩)
  have hlk : ∀ w', (∃ r : Regrown, w' = grow (redrawn w1 r.d) r.os) → (Instr.lookup 84 (.map (some bm)) (.agg (hA k)) false).run Tryz.prog w' = .ok (V k) w' := by
    rintro _ ⟨r, rfl⟩
    exact look (N.below (below_regrown w1 r.d r.os)) hk
  have hc : ∀ w', (∃ r : Regrown, w' = grow (redrawn w1 r.d) r.os) → ∀ j, j < (hA k).size → w'.cell? ⟨w.heap.size, j, none⟩ = (hA k)[j]? := by
    rintro _ ⟨r, rfl⟩ j hj
    rw [cell_of_row _ _ _ _ 38 _ (((below_regrown w1 r.d r.os).block _ (by have := (Array.getElem?_eq_some_iff.1 hbx).1; exact this)).trans hbx)]
  have s1 := fun (d : Nat) (os : Array Obj) => cell_regrown h1.map d os
  obtain ⟨r1, hr1⟩ : ∃ r, r = pos t (grp κ L k) := ⟨_, rfl⟩
  obtain ⟨r2, hr2⟩ : ∃ r, r = decide (t ∈ grp κ L k) := ⟨_, rfl⟩
  rw [← hr1, ← hr2] at kb ⊢
  generalize t.length = m at kb ⊢
  have HB : Hid (Below w.heap.size w w1) := b1
  have HI : Hid ((Tryz.prog.info? 38).map (·.size) = some (hA k).size) := hA_info hk
  clear hr1 hr2 own st N h1 ht ht1 b1 h hbx hgl hL
  go_enter Tryz.func101, Tryz.ntmps101
  go_wp2_with fail
  rw [← hw1]
  clear hw1
  refine wp_region_quiet_below (by kernel_rfl) (by kernel_rfl) ?_
  iterate 4 (go_big_quiet_step (fail))
  refine quiet_load (by rfl) 38 (.tmp 4) (by rfl) w.heap.size (by rfl) (hA k) _ hc Tryz.underlying38 rfl HI.out ?_
  refine quiet_lookup (by rfl) 84 _ _ (by rfl) (.map (some bm)) (.agg (hA k)) (V k) (by rfl) (by rfl) hlk ?_
  repeat (first
    | go_big_quiet_step (first | (go_at_call 144; exact kb _ _))
    | quiet_step (first | (go_at_call 144; exact kb _ _)))
  refine wpQuiet_nil ?_
  intro w9 hw'
  obtain ⟨⟨dq, osq⟩, hw''⟩ := hw'
  have b9 := below_regrown w1 dq osq
  have HC : Hid (Below w.heap.size w w9) := by rw [hw'']; exact HB.out.trans (b9.mono HB.out.size)
  clear hw'' b9 kb hlk hc s1
  go_wp2_with fail
  go_ret2
  exact ⟨rfl, HC.out⟩
end Go.Proofs.YtpmdjopojcgpeaaGreatDoor.Dg

/-
  Two hashes compared: mac.Equal and ==.
-/
namespace Go.Proofs.YtpmdjopojcgpeaaGreatDoor.Dg
open Go.RowKit

theorem arrA_hA {k : List Nat} (h : IsH k) : arrA (gd k) = hA k := by
  have e := hA_of (arrA_size (gd k)) (arrA_cell (gd k))
  rw [e]
  have := lst_of k
  rw [h.1] at this
  rw [this]
set_option maxRecDepth 100000 in
theorem eqH_any (w : World) (k k' : List Nat) (h : IsH k) (h' : IsH k') : (Op.equalIn 10000 38 (.agg (hA k)) (.agg (hA k'))).run Tryz.prog w = .ok (decide (k = k')) w := by
  have K : Tryz.prog.keyTypeAt 2 38 = true := by kernel_rfl
  have c1 : (Value.agg (hA k)).cells.toList = bv k := by simp [Value.cells, hA]
  have c2 : (Value.agg (hA k')).cells.toList = bv k' := by simp [Value.cells, hA]
  obtain ⟨r, hr, hiff⟩ := run_equalIn_deep 9998 2 38 K w 2 2 (.agg (hA k)) (.agg (hA k')) _ _ (formed_hash h) (formed_hash h') (by rw [c1]; exact lits_hash 0 h) (by rw [c2]; exact lits_hash 0 h')
  rw [hr]
  have e : k = k' ↔ r = true := by
    rw [hiff]
    constructor
    · intro e; rw [e]
    · intro e
      exact (List.map_inj_right (fun x y q => by injection q with _ q; omega)).1 e
  cases r with
  | true => rw [decide_eq_true (e.2 rfl)]
  | false => rw [decide_eq_false (fun q => by cases e.1 q)]
end Go.Proofs.YtpmdjopojcgpeaaGreatDoor.Dg

/-
  mac: New.
-/
namespace Go.Proofs.YtpmdjopojcgpeaaGreatDoor.Dg
open Go.RowKit

/-- sixty-four bytes in a block of their own -/
def BlkAt (w : World) (g : Nat) (B : Nat → Nat) : Prop := w.heap[g]? = some (.cells (blkA B) 215 (0, 0))
theorem BlkAt.lt {w : World} {g : Nat} {B : Nat → Nat} (h : BlkAt w g B) : g < w.heap.size := by
  by_cases e : g < w.heap.size
  · exact e
  · have hn : w.heap[g]? = none := by simp; omega
    unfold BlkAt at h
    rw [hn] at h
    cases h
theorem BlkAt.below {w w' : World} {g : Nat} {B : Nat → Nat} (h : BlkAt w g B) (hb : Below w.heap.size w w') : BlkAt w' g B := (hb.block g h.lt).trans h
theorem BlkAt.cells {w : World} {g : Nat} {B : Nat → Nat} (h : BlkAt w g B) : ∀ i, i < 64 → w.cell? ⟨g, 0 + i, none⟩ = some (.int .u8 (B i)) := fun i hi => by
  rw [Nat.zero_add, cell_of_row w g i _ 215 _ h, blkA_cell B i hi]
theorem BlkAt.range {w : World} {g : Nat} {B : Nat → Nat} (h : BlkAt w g B) : w.rangeAt g 0 (blkL B) := blk_range h.cells
theorem BlkAt.view {w : World} {g : Nat} {B : Nat → Nat} (h : BlkAt w g B) (hB : ∀ i, B i < 256) : View w (some ⟨g, 0, none⟩) g 0 64 (fun i => (B i : Int)) :=
  ⟨fun _ => rfl, h.cells, fun i _ => by have := hB i; omega, by omega⟩
theorem blk_laid (w : World) (B : Nat → Nat) : BlkAt ((w.alloc (.cells Y64 215)).setRow w.heap.size (blkA B)) w.heap.size B ∧ Below w.heap.size w ((w.alloc (.cells Y64 215)).setRow w.heap.size (blkA B)) :=
  ⟨setRow_heap _ _ _ _ _ _ (heap_alloc_new _ _), below_setRow ((Below.refl _ _).alloc (Nat.le_refl _) _) (Nat.le_refl _) _⟩

end Go.Proofs.YtpmdjopojcgpeaaGreatDoor.Dg
