import Derived.Test.YtlhllbggnpcoaaaGreatDoorMacC
import Derived.Test.YtlhllbggnpcoaaaGreatDoorIns
import Derived.Test.YtlhllbggnpcoaaaGreatDoorLay
import Derived.Test.YtlhllbggnpcoaaaGreatDoorMacA
import Derived.Lib.QuietBelow
import Derived.Test.YtlhllbggnpcoaaaGreatDoorSl
import Derived.Maps.RangeWalk
/-
  mac: Copy.
-/
namespace Go.Proofs.YtlhllbggnpcoaaaGreatDoor
open Go.RowKit

theorem kd_of {w : World} {p : Nat} {B : Nat → Nat} {m : Nat} {X R : Nat → Nat} {s : W8} (hs : s = folds (cat 64 (msk 54 B) X) ((64 + m) / 64)) (hp : w.heap[p]? = some (.cells (kA s R (64 + m) (msk 92 B)) 150 (0, 0)))
    (hR : ∀ i, R i < 256) (hq : ∀ i, i < (64 + m) % 64 → R i = cat 64 (msk 54 B) X (64 * ((64 + m) / 64) + i)) (hB : ∀ i, B i < 256) (hX : ∀ i, X i < 256) : Kd w p B m X :=
  ⟨⟨⟨R, ⟨_, hp, kA_size _ _ _ _, fun i hi => by subst hs; exact kA_cell _ _ _ _ i hi⟩, hR, hq⟩, cat_lt (msk_lt (by decide) hB) hX⟩, hB, hX⟩
theorem load64 {w : World} {g o : Nat} {B : Nat → Nat} (h : ∀ i, i < 64 → w.cell? ⟨g, o + i, none⟩ = some (.int .u8 (B i))) : (Instr.loadAt 115 (.pointer (some ⟨g, o, none⟩))).run Tryz.prog w = .ok (.agg (blkA B)) w :=
  run_loadAt_mid w g o 115 (blkL B) _ (blk_range h) Tryz.underlying115 rfl (blkL_len B)
theorem load73 {E : Env} {w : World} {p : Nat} {s : W8} {R : Nat → Nat} {n : Nat} (h : StRow E w p s R n) : (Instr.loadAt 117 (.pointer (some ⟨p, 0, none⟩))).run Tryz.prog w = .ok (.agg (stL s R n).toArray) w :=
  run_loadAt_mid w p 0 117 (stL s R n) _ (StRow.range h) Tryz.underlying117 rfl (stL_len s R n)

theorem yieldsIf_build {P : Program} {ops : Array Oper} {S : World → Prop} {op : Oper} {a : Act} (hw : Region.wanted op (yielded ops a.tmps) = true) (t : TypeId) (parts : Array (Nat × Operand)) (ho : op.op = .build t parts) (cells : Array Value)
    (hb : P.built t (parts.map fun (i, x) => (i, a.eval x)).toList = some cells) : YieldsIf P ops S op (.agg cells) a :=
  .inl ⟨hw, fun w _ => by
    unfold execOp
    simp only [ho, Sem.run_bind, run_build w t _ cells hb, Result.andThen_ok]
    rfl⟩
theorem wpAnyH_weaken {P : Program} {ops : Array Oper} {Q : Exit → Act → World → Prop} {md : Region.Mode} {S S' : World → Prop} (h : ∀ w, S' w → S w) : ∀ (fuel : Nat) (listed : Array Bool) (a : Act) (w : World), wpAnyH P md ops Q S' fuel listed a w → wpAnyH P md ops Q S fuel listed a w
  | 0, _, _, _, k => k
  | fuel + 1, _, _, _, k => ⟨k.1, fun i hi => wpOp_mono (fun a' w' h' => ⟨h w' h'.1, wpAnyH_weaken h fuel _ a' w' h'.2⟩) (k.2 i hi)⟩
end Go.Proofs.YtlhllbggnpcoaaaGreatDoor

/-
  What a new note comes to: the string's copy, its row, the map.
-/
namespace Go.Proofs.YtlhllbggnpcoaaaGreatDoor
open Go.RowKit Go.Sort Go.Maps

theorem info_map : Tryz.prog.underlying 53 = some (.map 31 71) := by kernel_rfl
theorem zeroBB (w : World) : (zeroValue 71).run Tryz.prog w = .ok nilS w := by kernel_rfl
/-- the look-up -/
theorem look {w : World} {bm : Nat} {F : Nat → Prop} {κ : List Nat → List Nat} {L : List (List Nat)} {D : DataW Value} {V : List Nat → Value} {n : Nat} (h : NotesX w bm F κ L D V n) {k : List Nat} (hk : IsH k) :
    (Instr.lookup 53 (.map (some bm)) (.agg (hA k)) false).run Tryz.prog w = .ok (V k) w := by
  obtain ⟨v, ps, hr, hv⟩ := h.map.lookup keyed info_map (zeroBB w) (zd := .held nilS) (zp := []) rfl (keyOf_hash hk)
  rw [h.val k hk] at hv
  have : v = V k := by
    simp only [holdR, Option.some.injEq, Prod.mk.injEq, DataW.held.injEq] at hv
    exact hv.1
  rw [hr, this]
theorem NotesX.below {w w' : World} {bm : Nat} {F : Nat → Prop} {κ : List Nat → List Nat} {L : List (List Nat)} {D : DataW Value} {V : List Nat → Value} {n : Nat} (h : NotesX w bm F κ L D V n) (hb : Below w.heap.size w w') : NotesX w' bm F κ L D V n :=
  h.turn (Turn.of_below hb (F := fun _ => False)) (fun _ _ _ q => q)
theorem own_base {w : World} {B e size n : Nat} {v : Value} {xs : List Value} (h : w.ownsRow B e size v n xs) : w.ownsRow 0 e size v n xs := by
  refine ⟨h.1, ?_⟩
  rcases h.2 with q | ⟨g, cap, cur, h1, _, h2⟩
  · exact Or.inl q
  · exact Or.inr ⟨g, cap, cur, h1, Nat.zero_le _, h2⟩
theorem own_below {w w' : World} {B e size n : Nat} {v : Value} {xs : List Value} (h : w.ownsRow B e size v n xs) (hb : Below w.heap.size w w') : w'.ownsRow B e size v n xs := own_turn h (Turn.of_below hb (F := fun _ => False)) (fun _ _ q => q)

structure AddF (W w8 : World) (bm : Nat) (F : Nat → Prop) (κ : List Nat → List Nat) (L : List (List Nat)) : Prop where
  notes : Notes w8 bm (fun i => F i ∨ (W.heap.size ≤ i ∧ i < w8.heap.size)) κ L
  turn : Turn F W w8

theorem add_insert {W w5 w7 : World} {bm : Nat} {F : Nat → Prop} {κ : List Nat → List Nat} {L : List (List Nat)} {D : DataW Value} {V : List Nat → Value} {n : Nat} {t : List Nat} {u v' : Value} {xs : List Value} (N : NotesX W bm F κ L D V n) (hk : IsH (κ t)) (htL : t ∉ L) (hbs : Bs t) (hroom : L.length ≤ 1099511627776)
    (ho5 : w5.ownsRow W.heap.size 5 1 u t.length (bv t)) (hb5 : Below W.heap.size W w5) (own : W.ownsRow 0 26 1 (V (κ t)) (grp κ L (κ t)).length xs) (st : Strs W F xs (grp κ L (κ t)))
    (hI : Inserted (w5.alloc (.cells #[u] 26)) w7 (V (κ t)) v' (grp κ L (κ t)).length (pos t (grp κ L (κ t))) xs u) :
    ∃ w8, (Instr.mapUpdate 53 (.map (some bm)) (.agg (hA (κ t))) v').run Tryz.prog w7 = .ok () w8 ∧ AddF W w8 bm F κ (ins t L) ∧ w7.grownBy w8 (some bm) := by
  have b6 : Below W.heap.size W (w5.alloc (.cells #[u] 26)) := hb5.alloc hb5.size _
  have t7 : Turn (fun i => (V (κ t)).ownBlock = some i) W w7 := (Turn.of_below b6).trans (Turn.of_grown hI.2.1 (F := fun i => (V (κ t)).ownBlock = some i) (fun k e => e)) (fun i q => Or.inl q)
  have m7 := map_turn N.map t7 (own_ne_map own N.map)
  have hn : n < maxLen := by have := N.room; unfold maxLen; omega
  obtain ⟨w8, hrun, m8, g8⟩ := m7.update keyed info_map hn (keyOf_hash hk) (rfl : holdR v' = some (.held v', []))
  refine ⟨w8, hrun, ⟨⟨_, _, _, N.store (F' := fun i => F i ∨ (W.heap.size ≤ i ∧ i < w8.heap.size)) htL hk (fun i q => Or.inl q) (fun i h1 h2 => Or.inr ⟨h1, h2⟩) t7 hI.1 ?_ ?_ m8 g8⟩, ?_⟩, g8⟩
  · rw [ins_at (ris_grp N.ris _) (fun q => htL (mem_grp.1 q).1)]
    have rowne : ∀ {q : Value} {s : List Nat} {B : Nat} (_ : W.ownsRow B 5 1 q s.length (bv s)) (g : Nat), q.ownBlock = some g → ¬ ((V (κ t)).ownBlock = some g) := fun hq g hg e => by
      obtain ⟨cur, hc⟩ := own_block own e
      exact own_ne_cells hq hc (by decide) hg
    have s7 : ∀ x ∈ xs, ∀ s, Str W F x s → Str w7 (fun i => F i ∨ (W.heap.size ≤ i ∧ i < w8.heap.size)) x s := fun x _ s hs =>
      ⟨own_turn hs.own t7 (rowne hs.own), fun g hg => Or.inl (hs.foot g hg), hs.ok⟩
    have st7 : Strs w7 (fun i => F i ∨ (W.heap.size ≤ i ∧ i < w8.heap.size)) xs (grp κ L (κ t)) := st.imp s7
    refine (st7.take _).app (.cons ?_ (st7.drop _))
    have ho6 : (w5.alloc (.cells #[u] 26)).ownsRow W.heap.size 5 1 u t.length (bv t) := ho5.alloc _
    have own6 : (w5.alloc (.cells #[u] 26)).ownsRow 0 26 1 (V (κ t)) (grp κ L (κ t)).length xs := own_below own b6
    have ho7 : w7.ownsRow W.heap.size 5 1 u t.length (bv t) := own_turn ho6 (Turn.of_grown hI.2.1 (F := fun i => (V (κ t)).ownBlock = some i) (fun k e => e)) (fun g hg e => by
      obtain ⟨cur, hc⟩ := own_block own6 e
      exact own_ne_cells ho6 hc (by decide) hg)
    refine ⟨own_base ho7, fun g hg => Or.inr ⟨(ho7.lt g hg).1, Nat.lt_of_lt_of_le (ho7.lt g hg).2 g8.size⟩, hbs⟩
  · rcases hI.2.2 with e | e
    · exact Or.inl e
    · exact Or.inr ⟨_, e, by rw [World.size_alloc]; have := hb5.size; omega⟩
  · exact (t7.mono (fun i q => Or.inl (N.rfoot _ i hk q))).trans (Turn.of_grown g8 (F := F) (fun k e => by rw [← Option.some.inj e]; exact N.foot)) (fun i q => Or.inl q)
end Go.Proofs.YtlhllbggnpcoaaaGreatDoor

/-
  notes: place, has, add, met.
-/
namespace Go.Proofs.YtlhllbggnpcoaaaGreatDoor
open Go.RowKit Go.Sort Go.Maps

/-- NOTES AS THEY STAND IN A STRUCT: the map's and the count's cell. -/
structure NAt (w : World) (p o bm : Nat) (F : Nat → Prop) (κ : List Nat → List Nat) (L : List (List Nat)) : Prop where
  map : w.cell? ⟨p, o, none⟩ = some (.map (some bm))
  cnt : w.cell? ⟨p, o + 1, none⟩ = some (.int .i64 (L.length : Nat))
  fz : w.frozen? ⟨p, o + 1, none⟩ = false
  notes : Notes w bm F κ L
  out : ¬ F p
  lim : ∀ i, F i → i < w.heap.size
theorem NAt.below {w w' : World} {p o bm : Nat} {F : Nat → Prop} {κ : List Nat → List Nat} {L : List (List Nat)} (h : NAt w p o bm F κ L) (hb : Below w.heap.size w w') : NAt w' p o bm F κ L := by
  have hp : p < w.heap.size := World.block_lt_of_cell? w ⟨p, o, none⟩ h.map
  refine ⟨(hb.cell (p := ⟨p, o, none⟩) hp).trans h.map, (hb.cell (p := ⟨p, o + 1, none⟩) hp).trans h.cnt, (World.frozen?_of_block (w := w) (hb.block p hp)).trans h.fz, h.notes.turn (Turn.of_below hb (F := fun _ => False)) (fun _ _ _ q => q), h.out, fun i q => Nat.lt_of_lt_of_le (h.lim i q) hb.size⟩
theorem hL_len {k : List Nat} (h : IsH k) : (Tryz.prog.info? 31).map (·.size) = some (bv k).length := by rw [bv_len, h.1]; exact info26
theorem range_box {w : World} {g : Nat} {k : List Nat} (h : w.heap[g]? = some (.cells (hA k) 31 (0, 0))) : w.rangeAt g 0 (bv k) := by
  intro j v hv
  rw [Nat.zero_add, cell_of_row w g j _ 31 _ h]
  unfold hA
  rw [List.getElem?_toArray]
  exact hv

theorem quiet_lookup {P : Program} {ops : Array Oper} {C : World → Prop} {Q : Act → Prop} {a : Act} {o : Oper} {rest : List Oper} (hw : Region.wanted o (yielded ops a.tmps) = true) (t : TypeId) (m x : Operand) (ho : o.op = .lookup t m x false)
    (vm vx v : Value) (hm : a.eval m = vm) (hx : a.eval x = vx) (hr : ∀ w, C w → (Instr.lookup t vm vx false).run P w = .ok v w) (h : wpQuiet P ops C Q rest (a.put o.dst v)) : wpQuiet P ops C Q (o :: rest) a := by
  refine wpQuiet_step fun K hK => ?_
  rw [if_pos hw]
  refine ⟨v, fun w hC => ?_, hK _ h⟩
  unfold Oper.quietAt execOp
  simp only [ho, hm, hx, Sem.run_bind, hr w hC, Sem.run_pure, Result.andThen_ok]
  exact ⟨rfl, rfl⟩

set_option maxRecDepth 100000 in
set_option maxHeartbeats 1600000 in
theorem place_any (w : World) (p o bm : Nat) (F : Nat → Prop) (κ : List Nat → List Nat) (L : List (List Nat)) (h : NAt w p o bm F κ L) (k : List Nat) (hk : IsH k) (hL : L.length ≤ 1099511627776)
    (a : Option Addr) (b off c : Nat) (t : List Nat) (ht : Vw w a b off t) :
    Calls Tryz.prog 55 #[.pointer (some ⟨p, o, none⟩), .agg (hA k), .slice a t.length c] w fun e w' => e = .returned (.tuple #[.int .i64 (pos t (grp κ L k) : Nat), .bool (decide (t ∈ grp κ L k))]) ∧ Below w.heap.size w w' := by
  have bs := hA_size hk
  have b1 : Below w.heap.size w (w.alloc (.cells (hA k) 31)) := (Below.refl _ _).alloc (Nat.le_refl _) _
  have h1 := h.below b1
  have hbx : (w.alloc (.cells (hA k) 31)).heap[w.heap.size]? = some (.cells (hA k) 31 (0, 0)) := heap_alloc_new _ _
  have ht1 := ht.below b1
  obtain ⟨w1, hw1⟩ : ∃ w1, w1 = w.alloc (.cells (hA k) 31) := ⟨_, rfl⟩
  rw [← hw1] at b1 h1 hbx ht1
  obtain ⟨D, V, n, N⟩ := h1.notes
  have hgl : (grp κ L k).length ≤ 1099511627776 := Nat.le_trans (List.length_filter_le _ _) hL
  obtain ⟨xs, own, st⟩ := N.row k hk
  have kb := fun (d : Nat) (os : Array Obj) => Calls.regrown_of (w := w1) (d := d) (os := os) ((bsearch_any (grow (redrawn w1 d) os) (V k) xs (grp κ L k) F (own_below own (below_regrown w1 d os)) (st.imp (fun u _ s hs => hs.turn (Turn.of_below (below_regrown w1 d os) (F := fun _ => False)) (fun _ _ _ f => f))) (ris_grp N.ris k) hgl a b off c t (ht1.below (below_regrown w1 d os))).mono fun e w' ⟨he, hw'⟩ => ⟨he, by rw [hw']; exact Below.refl _ _⟩)
  have hlk : ∀ w', (∃ r : Regrown, w' = grow (redrawn w1 r.d) r.os) → (Instr.lookup 53 (.map (some bm)) (.agg (hA k)) false).run Tryz.prog w' = .ok (V k) w' := by
    rintro _ ⟨r, rfl⟩
    exact look (N.below (below_regrown w1 r.d r.os)) hk
  have hc : ∀ w', (∃ r : Regrown, w' = grow (redrawn w1 r.d) r.os) → ∀ j, j < (hA k).size → w'.cell? ⟨w.heap.size, j, none⟩ = (hA k)[j]? := by
    rintro _ ⟨r, rfl⟩ j hj
    rw [cell_of_row _ _ _ _ 31 _ (((below_regrown w1 r.d r.os).block _ (by have := (Array.getElem?_eq_some_iff.1 hbx).1; exact this)).trans hbx)]
  have s1 := fun (d : Nat) (os : Array Obj) => cell_regrown h1.map d os
  obtain ⟨r1, hr1⟩ : ∃ r, r = pos t (grp κ L k) := ⟨_, rfl⟩
  obtain ⟨r2, hr2⟩ : ∃ r, r = decide (t ∈ grp κ L k) := ⟨_, rfl⟩
  rw [← hr1, ← hr2] at kb ⊢
  generalize t.length = m at kb ⊢
  have HB : Hid (Below w.heap.size w w1) := b1
  have HI : Hid ((Tryz.prog.info? 31).map (·.size) = some (hA k).size) := hA_info hk
  clear hr1 hr2 own st N h1 ht ht1 b1 h hbx hgl hL
  go_enter Tryz.func55, Tryz.ntmps55
  go_wp2_with fail
  rw [← hw1]
  clear hw1
  refine wp_region_quiet_below (by kernel_rfl) (by kernel_rfl) ?_
  iterate 4 (go_big_quiet_step (fail))
  refine quiet_load (by rfl) 31 (.tmp 4) (by rfl) w.heap.size (by rfl) (hA k) _ hc Tryz.underlying31 rfl HI.out ?_
  refine quiet_lookup (by rfl) 53 _ _ (by rfl) (.map (some bm)) (.agg (hA k)) (V k) (by rfl) (by rfl) hlk ?_
  repeat (first
    | go_big_quiet_step (first | (go_at_call 79; exact kb _ _))
    | quiet_step (first | (go_at_call 79; exact kb _ _)))
  refine wpQuiet_nil ?_
  intro w9 hw'
  obtain ⟨⟨dq, osq⟩, hw''⟩ := hw'
  have b9 := below_regrown w1 dq osq
  have HC : Hid (Below w.heap.size w w9) := by rw [hw'']; exact HB.out.trans (b9.mono HB.out.size)
  clear hw'' b9 kb hlk hc s1
  go_wp2_with fail
  go_ret2
  exact ⟨rfl, HC.out⟩
end Go.Proofs.YtlhllbggnpcoaaaGreatDoor

/-
  Pairs gathered.
-/
namespace Go.Proofs.YtlhllbggnpcoaaaGreatDoor
open Go.RowKit Go.Sort Go.Maps

theorem ranges_turn {H : Type} {P : Program} {k : TypeId} {R : Value → Option (DataW H × List MemPlace)} {w w' : World} {b r n cnt : Nat} {D : DataW H} {left : Lit → Bool} {F : Nat → Prop} (h : w.ranges P k R b r n D left cnt) (t : Turn F w w') (hb : ¬ F b) (hr : ¬ F r) : w'.ranges P k R b r n D left cnt := by
  have l1 := h.lt
  have l2 := h.owns.lt
  obtain ⟨es, clock, since, seen, c0, h1, h2, h3, h4, h5, rest⟩ := h
  exact ⟨es, clock, since, seen, c0, (t.block b l2 hb).trans h1, h2, h3, h4, (t.block r l1 hr).trans h5, rest⟩
theorem own_ne_iter {w : World} {base e size m : Nat} {v : Value} {xs : List Value} (h : w.ownsRow base e size v m xs) {H : Type} {P : Program} {k : TypeId} {R : Value → Option (DataW H × List MemPlace)} {b r n cnt : Nat} {D : DataW H} {left : Lit → Bool} (hm : w.ranges P k R b r n D left cnt) : v.ownBlock ≠ some r := by
  intro z
  obtain ⟨es, clock, since, seen, c0, h1, h2, h3, h4, h5, rest⟩ := hm
  obtain ⟨cur, hc⟩ := own_block h z
  rw [h5] at hc
  cases hc

/-- two slices that have no block in common -/
def Sep (u v : Value) : Prop := ∀ g, u.ownBlock = some g → v.ownBlock ≠ some g
theorem Sep.symm {u v : Value} (h : Sep u v) : Sep v u := fun g h1 h2 => h g h2 h1
theorem sep_perm {l1 l2 : List Value} (h : l1.Perm l2) : l1.Pairwise Sep ↔ l2.Pairwise Sep := h.pairwise_iff (fun {_ _} h => h.symm)
structure PAcc (w0 w : World) (v : Value) (Q : List PR) : Prop where
  below : Below w0.heap.size w0 w
  own : w.ownsRow w0.heap.size 94 2 v Q.length (Q.flatMap PR.enc)
  ok : ∀ q ∈ Q, POk w w0.heap.size q
  sep : (Q.flatMap PR.enc).Pairwise Sep
theorem PAcc.nil {w0 w : World} (h : Below w0.heap.size w0 w) : PAcc w0 w (.slice none 0 0) [] := ⟨h, World.ownsRow_nil _ _ _ _, fun q hq => by simp at hq, List.Pairwise.nil⟩
/-- what only makes memory, or turns a block that is none of ours -/
theorem PAcc.turn {w0 w w' : World} {v : Value} {Q : List PR} {G : Nat → Prop} (h : PAcc w0 w v Q) (t : Turn G w w') (hG : ∀ i, G i → w0.heap.size ≤ i ∧ (i < w.heap.size → ∃ o, w.heap[i]? = some o ∧ ∀ cs e fz, o ≠ .cells cs e fz)) : PAcc w0 w' v Q := by
  refine ⟨h.below.trans (t.below (fun i q => (hG i q).1) h.below.size), own_turn h.own t (fun g hg q => ?_), fun q hq => (h.ok q hq).turn t (fun i q hi => ?_), h.sep⟩
  · obtain ⟨o, ho, hne⟩ := (hG g q).2 (h.own.lt g hg).2
    obtain ⟨cur, hc⟩ := own_block h.own hg
    rw [hc] at ho
    exact hne _ _ _ (Option.some.inj ho).symm
  · obtain ⟨o, ho, hne⟩ := (hG i q).2 hi
    exact ⟨o, ho, fun cs fz => hne cs 5 fz⟩
theorem PAcc.step {w0 w w' : World} {v : Value} {Q : List PR} (h : PAcc w0 w v Q) (hb : Below w.heap.size w w') : PAcc w0 w' v Q :=
  h.turn (Turn.of_below hb (F := fun _ => False)) (fun _ q => q.elim)
theorem row_apart {w : World} {base size n : Nat} {v : Value} {xs : List Value} (h : w.ownsRow base 94 size v n xs) : ∀ i, v.ownBlock = some i → i < w.heap.size → ∃ o, w.heap[i]? = some o ∧ ∀ cs fz, o ≠ .cells cs 5 fz := fun i hi _ => by
  obtain ⟨cur, hc⟩ := own_block h hi
  exact ⟨_, hc, fun cs fz z => by injection z with _ z; exact absurd z (by decide)⟩
/-- one more -/
theorem PAcc.push {w0 wr w1 w2 w3 : World} {v v1 v2 v' : Value} {Q : List PR} {a b : List Nat} {o : Obj} (h : PAcc w0 wr v Q) (hb1 : Below wr.heap.size wr w1) (o1 : w1.ownsRow wr.heap.size 5 1 v1 a.length (bv a)) (ka : Bs a)
    (hb2 : Below w1.heap.size w1 w2) (o2 : w2.ownsRow w1.heap.size 5 1 v2 b.length (bv b)) (kb : Bs b)
    (own' : w3.ownsRow w0.heap.size 94 2 v' (Q.length + 1) (Q.flatMap PR.enc ++ [v1, v2])) (gr : (w2.alloc o).grownBy w3 v.ownBlock) :
    PAcc w0 w3 v' (Q ++ [⟨v1, a, v2, b⟩]) ∧ Turn (fun i => v.ownBlock = some i) wr w3 := by
  have h1 := h.step hb1
  have h2 := h1.step hb2
  have h2a := h2.step ((Below.refl _ _).alloc (Nat.le_refl _) o : Below w2.heap.size w2 (w2.alloc o))
  have t3 : Turn (fun i => v.ownBlock = some i) (w2.alloc o) w3 := Turn.of_grown gr (fun k e => e)
  have lo : ∀ i, v.ownBlock = some i → w0.heap.size ≤ i := fun i hi => (h.own.lt i hi).1
  have s1 : Str (w2.alloc o) (fun i => w0.heap.size ≤ i) v1 a := by
    refine ⟨?_, fun g hg => ?_, ka⟩
    · have := own_turn (own_turn o1 (Turn.of_below hb2 (F := fun _ => False)) (fun _ _ q => q)) (Turn.alloc w2 o (F := fun _ => False)) (fun _ _ q => q)
      exact ⟨this.1, this.2.imp id (fun ⟨g, cap, cur, e1, _, r⟩ => ⟨g, cap, cur, e1, Nat.zero_le _, r⟩)⟩
    · exact Nat.le_trans h.below.size (o1.lt g hg).1
  have s2 : Str (w2.alloc o) (fun i => w0.heap.size ≤ i) v2 b := by
    refine ⟨?_, fun g hg => ?_, kb⟩
    · have := own_turn o2 (Turn.alloc w2 o (F := fun _ => False)) (fun _ _ q => q)
      exact ⟨this.1, this.2.imp id (fun ⟨g, cap, cur, e1, _, r⟩ => ⟨g, cap, cur, e1, Nat.zero_le _, r⟩)⟩
    · exact Nat.le_trans h1.below.size (o2.lt g hg).1
  have hn : POk (w2.alloc o) w0.heap.size ⟨v1, a, v2, b⟩ := ⟨s1, s2⟩
  have ra := row_apart h2a.own
  refine ⟨⟨h2a.below.trans (t3.below lo h2a.below.size), by simpa [PR.enc] using own', fun q hq => ?_, ?_⟩, ?_⟩
  · rcases List.mem_append.1 hq with hq | hq
    · exact (h2a.ok q hq).turn t3 ra
    · rw [List.mem_singleton] at hq
      subst hq
      exact hn.turn t3 ra
  · have old : ∀ u ∈ Q.flatMap PR.enc, ∀ g, u.ownBlock = some g → g < wr.heap.size := fun u hu g hg => by
      obtain ⟨q, hq, hu⟩ := List.mem_flatMap.1 hu
      simp only [PR.enc, List.mem_cons, List.not_mem_nil, or_false] at hu
      rcases hu with rfl | rfl
      · exact ((h.ok q hq).sa.own.lt g hg).2
      · exact ((h.ok q hq).sb.own.lt g hg).2
    have e : (Q ++ [(⟨v1, a, v2, b⟩ : PR)]).flatMap PR.enc = Q.flatMap PR.enc ++ [v1, v2] := by simp [PR.enc]
    rw [e, List.pairwise_append]
    refine ⟨h.sep, List.pairwise_cons.2 ⟨fun x hx g h1 h2 => ?_, List.pairwise_singleton _ _⟩, fun u hu x hx g h1 h2 => ?_⟩
    · rw [List.mem_singleton] at hx
      subst hx
      have := (o1.lt g h1).2
      have := (o2.lt g h2).1
      omega
    · have l := old u hu g h1
      simp only [List.mem_cons, List.not_mem_nil, or_false] at hx
      rcases hx with rfl | rfl
      · have := (o1.lt g h2).1
        omega
      · have := (o2.lt g h2).1
        have := hb1.size
        omega
  · exact (((Turn.of_below hb1 (F := fun i => v.ownBlock = some i)).trans (Turn.of_below hb2 (F := fun i => v.ownBlock = some i)) (fun _ q => Or.inl q)).trans (Turn.alloc w2 o (F := fun i => v.ownBlock = some i)) (fun _ q => Or.inl q)).trans t3 (fun _ q => Or.inl q)

/-- WHAT IS GATHERED SO FAR: the groups whose keys have been met. -/
structure Met (κ : List Nat → List Nat) (L : List (List Nat)) (left : Lit → Bool) (P : List (List Nat × List Nat)) : Prop where
  mem : ∀ p, p ∈ P ↔ ∃ k, IsH k ∧ left (klit k) = false ∧ p ∈ gpairs (grp κ L k)
  nod : P.Nodup
theorem gp_key {κ : List Nat → List Nat} {L : List (List Nat)} {k : List Nat} {p : List Nat × List Nat} (h : p ∈ gpairs (grp κ L k)) : κ p.1 = k := by
  have h1 := gpairs_fst h
  have : p.1 ∈ grp κ L k := List.mem_of_mem_head? (by rw [h1]; rfl)
  exact (mem_grp.1 this).2
theorem Met.next {κ : List Nat → List Nat} {L : List (List Nat)} (hL : Ris L) {left : Lit → Bool} {P : List (List Nat × List Nat)} (h : Met κ L left P) {k : List Nat} (hk : IsH k) (hl : left (klit k) = true) : Met κ L (fun z => left z && !z.sameKey (klit k)) (P ++ gpairs (grp κ L k)) := by
  refine ⟨fun p => ?_, ?_⟩
  · rw [List.mem_append, h.mem]
    constructor
    · rintro (⟨k', h1, h2, h3⟩ | h3)
      · exact ⟨k', h1, by rw [h2]; rfl, h3⟩
      · exact ⟨k, hk, by rw [(WideAt.sameKey_iff (klit_key hk)).2 rfl]; simp, h3⟩
    · rintro ⟨k', h1, h2, h3⟩
      by_cases e : k' = k
      · subst e; exact Or.inr h3
      · refine Or.inl ⟨k', h1, ?_, h3⟩
        have : (klit k').sameKey (klit k) = false := by
          cases q : (klit k').sameKey (klit k) with
          | false => rfl
          | true => exact absurd (klit_inj h1 hk ((WideAt.sameKey_iff (klit_key hk)).1 q)) e
        rw [this] at h2
        simpa using h2
  · rw [List.nodup_append]
    refine ⟨h.nod, List.Pairwise.imp (R := ltP) (S := fun x y => x ≠ y) (fun {x y} (q : ltP x y) (z : x = y) => ltP_irrefl y (by rw [z] at q; exact q)) (ris_gpairs (ris_grp hL k)), fun p hp q hq z => ?_⟩
    subst z
    obtain ⟨k', h1, h2, h3⟩ := (h.mem p).1 hp
    have e : k' = k := (gp_key h3).symm.trans (gp_key hq)
    rw [e, hl] at h2
    cases h2
theorem met_start {κ : List Nat → List Nat} {L : List (List Nat)} {D : DataW Value} (h : ∀ k, IsH k → (Maps.has D (klit k) = true ↔ grp κ L k ≠ [])) : Met κ L (Maps.has D) [] := by
  refine ⟨fun p => ⟨fun q => by simp at q, ?_⟩, List.nodup_nil⟩
  rintro ⟨k, h1, h2, h3⟩
  have : grp κ L k = [] := by
    rcases Classical.em (grp κ L k = []) with e | e
    · exact e
    · rw [(h k h1).2 e] at h2; cases h2
  rw [this] at h3
  simp [gpairs] at h3
/-- all are met: sorted, they are the pairs -/
theorem Met.done {κ : List Nat → List Nat} {L : List (List Nat)} (hL : Ris L) (hK : ∀ s ∈ L, IsH (κ s)) {left : Lit → Bool} {P P' : List (List Nat × List Nat)} (h : Met κ L left P) (hl : ∀ kl, left kl = false) (hp : P'.Perm P) (hs : P'.Pairwise (fun x y => ¬ ltP y x)) : P' = pairsL κ L := by
  have nd : P'.Nodup := hp.nodup_iff.2 h.nod
  refine rise_eq ltP_irrefl ltP_trans ?_ (ris_pairsL hL) (fun p => ?_)
  · refine List.Pairwise.imp₂ (fun x y (h1 : ¬ ltP y x) (h2 : x ≠ y) => ?_) hs nd
    rcases ltP_tri x y with q | q | q
    · exact q
    · exact absurd q h2
    · exact absurd q h1
  · rw [hp.mem_iff, h.mem]
    obtain ⟨a, b⟩ := p
    rw [mem_pairsL hL]
    constructor
    · rintro ⟨k, _, _, h3⟩
      obtain ⟨ha, hb, hlt, hm⟩ := (mem_gpairs (ris_grp hL k)).1 h3
      obtain ⟨ha, ea⟩ := mem_grp.1 ha
      obtain ⟨hb, eb⟩ := mem_grp.1 hb
      exact ⟨ha, hb, ea.trans eb.symm, hlt, fun c hc e => hm c (mem_grp.2 ⟨hc, e.trans ea⟩)⟩
    · rintro ⟨ha, hb, e, hlt, hm⟩
      exact ⟨κ a, hK a ha, hl _, (mem_gpairs (ris_grp hL _)).2 ⟨mem_grp.2 ⟨ha, rfl⟩, mem_grp.2 ⟨hb, e.symm⟩, hlt, fun c hc => hm c (mem_grp.1 hc).1 (mem_grp.1 hc).2⟩⟩
end Go.Proofs.YtlhllbggnpcoaaaGreatDoor
