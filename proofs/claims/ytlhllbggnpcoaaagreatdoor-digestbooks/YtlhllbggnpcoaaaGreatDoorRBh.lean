import Derived.Test.YtlhllbggnpcoaaaGreatDoorYl4
import Derived.Test.YtlhllbggnpcoaaaGreatDoorPpr
/-
  Operations of the reference's lists; bytes appended, and where they lie; two new strings.
-/
namespace Go.Proofs.YtlhllbggnpcoaaaGreatDoor
open Go.RowKit Go.Sort Go.Maps

section
variable {ops : Array Oper} {S : World → Prop} {o : Oper} {a : Act}
theorem y_indexN (hw : Region.wanted o (yielded ops a.tmps) = true) (x i : Operand) (ho : o.op = .indexAddr 77 x i) (g n c j : Nat) (hx : a.eval x = .slice (some ⟨g, 0, none⟩) n c) (hi : a.eval i = .int .i64 j) (hj : j < n) : YieldsIf Tryz.prog ops S o (.pointer (some ⟨g, j * 33, none⟩)) a :=
  .inl ⟨hw, fun w _ => by
    have q : (j : Int) < (n : Int) := by omega
    unfold execOp
    simp only [ho, hx, hi]
    go_simp⟩
theorem y_fieldN (hw : Region.wanted o (yielded ops a.tmps) = true) (x : Operand) (f : Nat) (ho : o.op = .fieldAddr 105 x f) (g p : Nat) (hx : a.eval x = .pointer (some ⟨g, p, none⟩)) (hf : f < 2) : YieldsIf Tryz.prog ops S o (.pointer (some ⟨g, p + f, none⟩)) a :=
  .inl ⟨hw, fun w _ => by
    unfold execOp
    simp only [ho, hx]
    rcases (by omega : f = 0 ∨ f = 1) with rfl | rfl
    · go_simp
    · go_simp⟩
theorem y_indexG (hw : Region.wanted o (yielded ops a.tmps) = true) (x i : Operand) (ho : o.op = .indexAddr 37 x i) (g n c j : Nat) (hx : a.eval x = .slice (some ⟨g, 0, none⟩) n c) (hi : a.eval i = .int .i64 j) (hj : j < n) : YieldsIf Tryz.prog ops S o (.pointer (some ⟨g, j * 33, none⟩)) a :=
  .inl ⟨hw, fun w _ => by
    have q : (j : Int) < (n : Int) := by omega
    unfold execOp
    simp only [ho, hx, hi]
    go_simp⟩
theorem y_neqHr (hw : Region.wanted o (yielded ops a.tmps) = true) (x y : Operand) (ho : o.op = .binOp .neq 31 x y 31) (u v : Array Value) (hx : a.eval x = .agg u) (hy : a.eval y = .agg v) (r : Bool) (he : ∀ w0 : World, (Op.equalIn 10000 31 (.agg u) (.agg v)).run Tryz.prog w0 = .ok r w0) : YieldsIf Tryz.prog ops S o (.bool (!r)) a :=
  .inl ⟨hw, fun w _ => by
    have e := he w
    unfold execOp
    simp only [ho, hx, hy]
    go_simp⟩
theorem y_not (hw : Region.wanted o (yielded ops a.tmps) = true) (x : Operand) (ho : o.op = .unOp .not 4 x) (b : Bool) (hx : a.eval x = .bool b) : YieldsIf Tryz.prog ops S o (.bool (!b)) a :=
  .inl ⟨hw, fun w _ => by
    unfold execOp
    simp only [ho, hx]
    go_simp⟩
theorem y_eqlB (hw : Region.wanted o (yielded ops a.tmps) = true) (x y : Operand) (ho : o.op = .binOp .eql 4 x y 4) (b : Bool) (hx : a.eval x = .bool b) (hy : a.eval y = .bool b) : YieldsIf Tryz.prog ops S o (.bool true) a :=
  .inl ⟨hw, fun w _ => by
    unfold execOp
    simp only [ho, hx, hy]
    go_simp⟩
theorem y_loadN (hw : Region.wanted o (yielded ops a.tmps) = true) (x : Operand) (ho : o.op = .load 77 x) (g p : Nat) (hx : a.eval x = .pointer (some ⟨g, p, none⟩)) (v : Value) (hS : ∀ w, S w → w.cell? ⟨g, p, none⟩ = some v) : YieldsIf Tryz.prog ops S o v a :=
  .inl ⟨hw, fun w hs => by
    have c := hS w hs
    unfold execOp
    simp only [ho, hx]
    go_simp⟩
/-- bytes appended, as one step of a region that draws its order, and where they lie -/
theorem step_append_bytes_at {w : World} {K : Act → World → Prop} {Q : Exit → Act → World → Prop} {E : Prop} (hgd : o.guard = none) (s x : Operand)
    (ho : o.op = .call { callee := .builtin .append, args := #[s, x], argTypes := #[26, 26] }) (base : Nat) (v : Value) (k : Nat) (xs : List Value) (hs : a.eval s = v) (hown : w.ownsRow base 5 1 v k xs)
    (sa : Option Addr) (b off c : Nat) (t : List Nat) (hx : a.eval x = .slice sa t.length c) (hv : Vw w sa b off t) (hnil : sa = none → c = 0) (hk : k + t.length ≤ 140737488355328) (hbase : base ≤ w.heap.size)
    (h : ∀ v' w', w'.ownsRow base 5 1 v' (k + t.length) (xs ++ bv t) → w.grownBy w' v.ownBlock → (v'.ownBlock = v.ownBlock ∨ v'.ownBlock = some w.heap.size) → K (a.put o.dst v') w') : if Region.wanted o (yielded ops a.tmps) = true then Oper.wp Tryz.prog o a w K Q else E := by
  have hw : Region.wanted o (yielded ops a.tmps) = true := by simp [Region.wanted, hgd]
  rw [if_pos hw]
  obtain ⟨i0, hi0, hz0, hz1, hz2⟩ := info_parts Tryz.info5
  cases sa with
  | none =>
    have hn : t.length = 0 := by
      rcases Nat.eq_zero_or_pos t.length with e | e
      · exact e
      · cases hv.at_ e
    have ht : t = [] := List.length_eq_zero_iff.1 hn
    subst ht
    obtain rfl := hnil rfl
    have hrun := run_append_owned_none (P := Tryz.prog) (w := w) base 26 o.type 5 i0 1 Tryz.underlying26 hi0 v k xs hown
    unfold Oper.wp
    simp [execOp, ho, resolve, invoke, builtin, hs, hx, hrun, Result.andThen]
    refine h v w ?_ ⟨rfl, rfl, rfl, Nat.le_refl _, fun _ _ _ => rfl⟩ (Or.inl rfl)
    simpa [bv] using hown
  | some p =>
    obtain ⟨v', w', hrun, r1, r2, _, r4⟩ := run_append_own_at (P := Tryz.prog) w base 26 o.type 5 i0 (.int .u8 0) 1 1 Tryz.underlying26 hi0 hz0 hz1 hz2 rfl (by decide) v k xs hown p t.length c (bv t) (by simp [bv]) (by
      intro j u hu
      have hj : j < t.length := by
        rcases Nat.lt_or_ge j t.length with q | q
        · exact q
        · rw [List.getElem?_eq_none (by rw [bv_len]; exact q)] at hu; cases hu
      rw [bv_at hj] at hu
      have hu := Option.some.inj hu
      subst hu
      have hp : p = ⟨b, off, none⟩ := Option.some.inj (hv.at_ (by omega))
      subst hp
      rw [Go.WideShapes.add_plain]
      exact hv.cell j hj) (fun u hu => by obtain ⟨z, _, rfl⟩ := List.mem_map.1 hu; rfl) (by unfold maxLen; omega) (by omega) hbase
    unfold Oper.wp
    simp [execOp, ho, resolve, invoke, builtin, hs, hx, hrun, Result.andThen]
    exact h v' w' r1 r2 r4
end

/-- TWO NEW STRINGS, each in a row of its own -/
structure TwoRows (wr W : World) (v1 : Value) (n1 : Nat) (xs1 : List Value) (v2 : Value) (n2 : Nat) (xs2 : List Value) : Prop where
  below : Below wr.heap.size wr W
  o1 : W.ownsRow wr.heap.size 5 1 v1 n1 xs1
  o2 : W.ownsRow wr.heap.size 5 1 v2 n2 xs2
  sep : Sep v1 v2
section
variable {wr W W' : World} {v1 v2 v' : Value} {n1 n2 n' : Nat} {xs1 xs2 xs' : List Value}
theorem TwoRows.start (h : Below wr.heap.size wr W) : TwoRows wr W (.slice none 0 0) 0 [] (.slice none 0 0) 0 [] := ⟨h, World.ownsRow_nil _ _ _ _, World.ownsRow_nil _ _ _ _, fun g hg => by simp [Value.ownBlock] at hg⟩
theorem TwoRows.swap (h : TwoRows wr W v1 n1 xs1 v2 n2 xs2) : TwoRows wr W v2 n2 xs2 v1 n1 xs1 := ⟨h.below, h.o2, h.o1, h.sep.symm⟩
theorem TwoRows.lay (h : TwoRows wr W (.slice none 0 0) 0 [] v2 n2 xs2) : TwoRows wr (W.alloc (.cells #[] 5)) (.slice (some ⟨W.heap.size, 0, none⟩) 0 0) 0 [] v2 n2 xs2 := by
  have own0 := World.ownsRow_lit (base := wr.heap.size) (e := 5) (size := 1) W #[] 0 h.below.size (by decide) rfl
  refine ⟨h.below.alloc h.below.size _, own0, h.o2.alloc _, fun g h1 h2 => ?_⟩
  have e : W.heap.size = g := Option.some.inj h1
  have := (h.o2.lt g h2).2
  omega
theorem TwoRows.grow (h : TwoRows wr W v1 n1 xs1 v2 n2 xs2) (ho : W'.ownsRow wr.heap.size 5 1 v' n' xs') (gr : W.grownBy W' v1.ownBlock) (ha : v'.ownBlock = v1.ownBlock ∨ v'.ownBlock = some W.heap.size) : TwoRows wr W' v' n' xs' v2 n2 xs2 := by
  have t : Turn (fun i => v1.ownBlock = some i) W W' := Turn.of_grown gr (fun k e => e)
  refine ⟨h.below.trans (grown_below gr h.o1 (Nat.le_refl _) h.below.size), ho, own_turn h.o2 t (fun g hg q => h.sep g q hg), fun g h1 h2 => ?_⟩
  rcases ha with e | e
  · rw [e] at h1
    exact h.sep g h1 h2
  · rw [e] at h1
    have e := Option.some.inj h1
    have := (h.o2.lt g h2).2
    omega
end
/-- one more pair -/
theorem PAcc.push2 {w0 wr w2 w3 : World} {v v1 v2 v' : Value} {Q : List PR} {a b : List Nat} {o : Obj} (h : PAcc w0 wr v Q) (tr : TwoRows wr w2 v1 a.length (bv a) v2 b.length (bv b)) (ka : Bs a) (kb : Bs b)
    (own' : w3.ownsRow w0.heap.size 94 2 v' (Q.length + 1) (Q.flatMap PR.enc ++ [v1, v2])) (gr : (w2.alloc o).grownBy w3 v.ownBlock) :
    PAcc w0 w3 v' (Q ++ [⟨v1, a, v2, b⟩]) ∧ Turn (fun i => v.ownBlock = some i) wr w3 := by
  have h2 := h.step tr.below
  have h2a := h2.step ((Below.refl _ _).alloc (Nat.le_refl _) o : Below w2.heap.size w2 (w2.alloc o))
  have t3 : Turn (fun i => v.ownBlock = some i) (w2.alloc o) w3 := Turn.of_grown gr (fun k e => e)
  have lo : ∀ i, v.ownBlock = some i → w0.heap.size ≤ i := fun i hi => (h.own.lt i hi).1
  have st : ∀ (u : Value) (s : List Nat), w2.ownsRow wr.heap.size 5 1 u s.length (bv s) → Bs s → Str (w2.alloc o) (fun i => w0.heap.size ≤ i) u s := fun u s ou ks => by
    refine ⟨?_, fun g hg => Nat.le_trans h.below.size (ou.lt g hg).1, ks⟩
    exact own_base (own_turn ou (Turn.alloc w2 o (F := fun _ => False)) (fun _ _ q => q))
  have hn : POk (w2.alloc o) w0.heap.size ⟨v1, a, v2, b⟩ := ⟨st v1 a tr.o1 ka, st v2 b tr.o2 kb⟩
  have ra := row_apart h2a.own
  refine ⟨⟨h2a.below.trans (t3.below lo h2a.below.size), by simpa [PR.enc] using own', fun q hq => ?_, ?_⟩, ?_⟩
  · rcases List.mem_append.1 hq with hq | hq
    · exact (h2a.ok q hq).turn t3 ra
    · rw [List.mem_singleton] at hq
      subst hq
      exact hn.turn t3 ra
  · have old : ∀ u ∈ Q.flatMap PR.enc, ∀ g, u.ownBlock = some g → g < wr.heap.size := fun u hu g hg => by
      obtain ⟨q, hq, hu⟩ := List.mem_flatMap.1 hu
      simp only [PR.enc, List.mem_cons, List.not_mem_nil, or_false] at hu
      rcases hu with rfl | rfl
      · exact ((h.ok q hq).sa.own.lt g hg).2
      · exact ((h.ok q hq).sb.own.lt g hg).2
    have e : (Q ++ [(⟨v1, a, v2, b⟩ : PR)]).flatMap PR.enc = Q.flatMap PR.enc ++ [v1, v2] := by simp [PR.enc]
    rw [e, List.pairwise_append]
    refine ⟨h.sep, List.pairwise_cons.2 ⟨fun x hx => ?_, List.pairwise_singleton _ _⟩, fun u hu x hx g h1 h2 => ?_⟩
    · rw [List.mem_singleton] at hx
      subst hx
      exact tr.sep
    · have l := old u hu g h1
      simp only [List.mem_cons, List.not_mem_nil, or_false] at hx
      rcases hx with rfl | rfl
      · have := (tr.o1.lt g h2).1
        omega
      · have := (tr.o2.lt g h2).1
        omega
  · exact ((Turn.of_below tr.below (F := fun i => v.ownBlock = some i)).trans (Turn.alloc w2 o (F := fun i => v.ownBlock = some i)) (fun _ q => Or.inl q)).trans t3 (fun _ q => Or.inl q)
theorem NL.block {w : World} {F : Nat → Prop} {g n c : Nat} {Q : List FG} (h : NL w F (.slice (some ⟨g, 0, none⟩) n c) Q) : ∃ cur, w.heap[g]? = some (.cells cur 105 (0, 0)) := own_block h.own rfl
/-- one of them, by its place -/
theorem NL.ix {w : World} {F : Nat → Prop} {g n c : Nat} {Q : List FG} (h : NL w F (.slice (some ⟨g, 0, none⟩) n c) Q) (i : Nat) (q : FG) (hi : Q[i]? = some q) :
    (∃ p gp cp, w.cell? ⟨g, i * 33, none⟩ = some (.slice p q.s.length cp) ∧ Vw w p gp 0 q.s ∧ (p = none → cp = 0)) ∧ w.rangeAt g (i * 33 + 1) (bv q.k) ∧ q ∈ Q ∧ i < Q.length := by
  obtain ⟨hl, e⟩ := List.getElem?_eq_some_iff.1 hi
  obtain ⟨g', cap, ev, _, _, cells⟩ := h.at_ (by omega)
  injection ev with ev1 _ ev3
  injection ev1 with ev1
  injection ev1 with ev1
  subst ev1
  obtain ⟨⟨p, gp, cp, ce, vw⟩, rg⟩ := cells i hl
  rw [e] at ce vw rg
  refine ⟨⟨p, gp, cp, ce, vw, fun z => ?_⟩, rg, by rw [← e]; exact List.getElem_mem hl, hl⟩
  have h1 := h.str q (by rw [← e]; exact List.getElem_mem hl)
  have h2 := h.own.cells (g := g) rfl (i * 33 + 0) q.u ((flatF_get h.key i hl 0 (by decide)).trans (by rw [e]; rfl))
  rw [Nat.add_zero, show (⟨g, 0, none⟩ : Addr).add (i * 33) = ⟨g, i * 33, none⟩ by unfold Addr.add; split <;> simp_all, ce] at h2
  have h3 := Option.some.inj h2
  rcases h1.own.2 with ⟨e4, _⟩ | ⟨g4, cap4, cur4, e4, _⟩
  · rw [e4] at h3
    injection h3
  · rw [e4] at h3
    injection h3 with h3
    rw [z] at h3
    cases h3
end Go.Proofs.YtlhllbggnpcoaaaGreatDoor

/-
  The reference's book: Hash.
-/
namespace Go.Proofs.YtlhllbggnpcoaaaGreatDoor
open Go.RowKit Go.Sort Go.Maps

set_option maxRecDepth 100000 in
set_option maxHeartbeats 3200000 in
theorem rb_hash (w : World) (B qb : Nat) (st : Bst) (F : Nat → Prop) (h : RB w B qb st F) (hG : Gr w) (hL : st.LH.length ≤ 274877906944) (a : Option Addr) (b o c : Nat) (t : List Nat) (ht : Vw w a b o t) (hnil : a = none → c = 0) (hs : t.length ≤ 140737488351232) :
    Calls Tryz.prog 39 #[.pointer (some ⟨qb, 0, none⟩), .slice a t.length c] w fun e w' => e = .returned (.agg (hA (kh st.bits t))) ∧ RTurned w w' B qb { st with LH := ins t st.LH } F := by
  obtain ⟨sa, sB, sc, ah, ch, ac, cc, af, cf, Qh, Qc, Qf, hk⟩ := h
  have z64 := (zero_of_info infoH).1
  have b1' : Below w.heap.size w (w.alloc (.cells Z32 31)) := (Below.refl _ _).alloc (Nat.le_refl _) _
  obtain ⟨w1, hw1⟩ : ∃ w1, w1 = w.alloc (.cells Z32 31) := ⟨_, rfl⟩
  have hrs : w1.heap[w.heap.size]? = some (.cells Z32 31 (0, 0)) := by rw [hw1]; exact heap_alloc_new _ _
  have lrs : w.heap.size < w1.heap.size := by rw [hw1]; simp
  rw [← hw1] at b1'
  have cb : w1.cell? ⟨qb, 0, none⟩ = some (.int .i64 (st.bits : Nat)) := (hk.below b1').row.cell (i := 0) (by decide)
  have cs := rhashN_any w1 st.bits hk.b1.2 a b o c t (ht.below b1') hnil (by omega) (hG.below b1')
  have HB : Hid (Below w.heap.size w w1 ∧ w1.heap[w.heap.size]? = some (.cells Z32 31 (0, 0)) ∧ w.heap.size < w1.heap.size) := ⟨b1', hrs, lrs⟩
  have HR : Hid (RBk w B qb st F sa sB sc ah ch ac cc af cf Qh Qc Qf) := hk
  have HL : Hid (st.LH.length ≤ 274877906944) := hL
  have HT : Hid (Vw w a b o t ∧ (a = none → c = 0) ∧ t.length ≤ 140737488351232) := ⟨ht, hnil, hs⟩
  have hkk := kh_isH st.bits t
  obtain ⟨kk, ekk⟩ : ∃ kk, kk = kh st.bits t := ⟨_, rfl⟩
  have HKE : Hid (kk = kh st.bits t) := ekk
  rw [← ekk] at cs hkk ⊢
  have HKH : Hid (IsH kk) := hkk
  have hi3 := hA_info hkk
  clear ekk hk hG hL ht hnil hs b1' hrs lrs
  go_enter Tryz.func39, Tryz.ntmps39
  go_upto_region 1 with fail
  rw [← hw1]
  clear hw1
  go_wp2_with fail
  refine cs.mono ?_
  rintro _ w2 ⟨rfl, hb2⟩
  have bx : ((w2.alloc (.cells Z32 31)).setRow w2.heap.size (hA kk)).heap[w2.heap.size]? = some (.cells (hA kk) 31 (0, 0)) := setRow_heap _ _ _ _ _ _ (heap_alloc_new _ _)
  have bb : Below w2.heap.size w2 ((w2.alloc (.cells Z32 31)).setRow w2.heap.size (hA kk)) := below_setRow ((Below.refl _ _).alloc (Nat.le_refl _) _) (Nat.le_refl _) _
  obtain ⟨w3, hw3⟩ : ∃ w3, w3 = (w2.alloc (.cells Z32 31)).setRow w2.heap.size (hA kk) := ⟨_, rfl⟩
  obtain ⟨g, hg⟩ : ∃ g, g = w2.heap.size := ⟨_, rfl⟩
  rw [← hw3, ← hg] at bx
  rw [← hw3] at bb
  have b13 : Below w1.heap.size w1 w3 := hb2.trans (bb.mono hb2.size)
  have H3 : Hid (Below w1.heap.size w1 w3 ∧ w1.heap.size ≤ g) := ⟨b13, by rw [hg]; exact hb2.size⟩
  have HW3 : Hid (Below w.heap.size w w3) := HB.out.1.trans (b13.mono HB.out.1.size)
  have HK3 : Hid (RBk w3 B qb st F sa sB sc ah ch ac cc af cf Qh Qc Qf) := HR.out.below HW3.out
  have HBX : Hid (∀ v, Below w3.heap.size w3 v → v.rangeAt g 0 (bv kk)) := fun v hv => range_box ((hv.block g (Array.getElem?_eq_some_iff.1 bx).1).trans bx)
  have HGX : Hid (w3.heap[g]? = some (.cells (hA kk) 31 (0, 0))) := bx
  have HQN : Hid (qb ≠ g) := fun z => by have := HR.out.row.lt; have := H3.out.2; have := HB.out.2.2; omega
  clear bx bb hb2 b13 cs
  go_upto_region 2 with (refine wpList_store_row (by rfl) 31 (.tmp 5) (.tmp 11) (by rfl) w2.heap.size (hA kk) (by rfl) (by rfl) 31 Z32 (heap_alloc_new _ _) (hA_info hkk) (hA_Z32 hkk) (hA_one hkk) ?_)
  rw [← hw3, ← hg]
  clear hw3 hg cb
  have bd : Below w3.heap.size w3 w3.drew := (Turn.drew (F := fun _ => False) w3).below (fun _ f => f.elim) (Nat.le_refl _)
  have hk3 := HK3.out.below bd
  have s0 : w3.drew.rangeAt g 0 (bv kk) := HBX.out _ bd
  have ce : w3.drew.cell? ⟨qb, 3, none⟩ = some (.slice ah Qh.length ch) := hk3.row.cell (i := 3) (by decide)
  have nt := rnote_any w3.drew F ah ch Qh hk3.nh (by rw [hk3.eh]; exact hk3.rh) (by have e := congrArg List.length hk3.eh; rw [List.length_map] at e; rw [e]; exact HL.out) (fun i q => (hk3.lim i q).2) a b o c t ((HT.out.1.below HW3.out).below bd) HT.out.2.1 HT.out.2.2 kk HKH.out
  have HBD : Hid (Below w3.heap.size w3 w3.drew ∧ RBk w3.drew B qb st F sa sB sc ah ch ac cc af cf Qh Qc Qf) := ⟨bd, hk3⟩
  refine wp_region_held_drew (S := fun v => v.rangeAt g 0 (bv kk)) (by kernel_rfl) s0 ?_
  intro hS
  clear s0 bd hk3
  change wpAnyH _ _ _ _ _ 11 _ _ _
  generalize w3.drew = wd at hS ce nt HBD ⊢
  refine wpAnyH_take (i := 0) (v := (.pointer (some ⟨qb, 0, none⟩))) (by simp only [List.getElem?_toArray, List.getElem?_cons_zero]; rfl) (by kernel_rfl) (by kernel_rfl) (by kernel_rfl) (by exact fun _ _ _ h => h) (y_move (by kernel_rfl) _ rfl _ rfl) hS ?_
  try simp only [Act.put, List.setIfInBounds_toArray, List.set_cons_zero, List.set_cons_succ]
  refine wpAnyH_take (i := 1) (v := (.pointer (some ⟨qb, 0, none⟩))) (by simp only [List.getElem?_toArray, List.getElem?_cons_zero, List.getElem?_cons_succ]; rfl) (by kernel_rfl) (by kernel_rfl) (by kernel_rfl) (by exact fun _ _ _ h => h) (y_move (by kernel_rfl) _ rfl _ rfl) hS ?_
  try simp only [Act.put, List.setIfInBounds_toArray, List.set_cons_zero, List.set_cons_succ]
  refine wpAnyH_take (i := 2) (v := (.pointer (some ⟨qb, 0, none⟩))) (by simp only [List.getElem?_toArray, List.getElem?_cons_zero, List.getElem?_cons_succ]; rfl) (by kernel_rfl) (by kernel_rfl) (by kernel_rfl) (by exact fun _ _ _ h => h) (y_nil (by kernel_rfl) _ rfl _ rfl) hS ?_
  try simp only [Act.put, List.setIfInBounds_toArray, List.set_cons_zero, List.set_cons_succ]
  refine wpAnyH_take (i := 3) (v := (.pointer (some ⟨qb, 3, none⟩))) (by simp only [List.getElem?_toArray, List.getElem?_cons_zero, List.getElem?_cons_succ]; rfl) (by kernel_rfl) (by kernel_rfl) (by kernel_rfl) (by exact fun _ _ _ h => h) (y_fieldQ (by kernel_rfl) _ 3 rfl qb rfl (by decide)) hS ?_
  try simp only [Act.put, List.setIfInBounds_toArray, List.set_cons_zero, List.set_cons_succ]
  refine wpAnyH_take (i := 5) (v := (.slice a t.length c)) (by simp only [List.getElem?_toArray, List.getElem?_cons_zero, List.getElem?_cons_succ]; rfl) (by kernel_rfl) (by kernel_rfl) (by kernel_rfl) (by exact fun _ _ _ h => h) (y_move (by kernel_rfl) _ rfl _ rfl) hS ?_
  try simp only [Act.put, List.setIfInBounds_toArray, List.set_cons_zero, List.set_cons_succ]
  refine wpAnyH_take (i := 6) (v := (.agg (hA kk))) (by simp only [List.getElem?_toArray, List.getElem?_cons_zero, List.getElem?_cons_succ]; rfl) (by kernel_rfl) (by kernel_rfl) (by kernel_rfl) (by exact fun _ _ _ h => h) (yieldsIf_load_mid (by kernel_rfl) _ _ rfl g 0 rfl _ _ (fun v hs => hs) Tryz.underlying31 rfl (hL_len HKH.out)) hS ?_
  try simp only [Act.put, List.setIfInBounds_toArray, List.set_cons_zero, List.set_cons_succ]
  refine wpAnyH_ready (rs := [4]) (by kernel_rfl) (by simp) ?_
  refine AllReadyH.cons (by simp only [List.getElem?_toArray, List.getElem?_cons_zero, List.getElem?_cons_succ]; rfl) (fun K hK => ?_) AllReadyH.nil
  refine r_loadN (by kernel_rfl) _ rfl qb 3 rfl _ ce ?_
  refine hK.out _ _ hS (fun hS => ?_)
  clear hK K
  try simp only [Act.put, List.setIfInBounds_toArray, List.set_cons_zero, List.set_cons_succ]
  refine wpAnyH_ready (rs := [7]) (by kernel_rfl) (by simp) ?_
  refine AllReadyH.cons (by simp only [List.getElem?_toArray, List.getElem?_cons_zero, List.getElem?_cons_succ]; rfl) (fun K hK => ?_) AllReadyH.nil
  refine r_call3 65 _ _ _ #[77, 26, 31] rfl (by kernel_rfl) (.slice ah Qh.length ch) (.slice a t.length c) (.agg (hA kk)) rfl rfl rfl (enters_of Tryz.func65 (by kernel_rfl) rfl) (nt.mono ?_)
  rintro _ w5 ⟨av', cv', Q', rfl, nl5, em5, ek5, b5⟩
  refine ⟨_, rfl, ?_⟩
  have H5 : Hid (NL w5 (fun i => F i ∨ (wd.heap.size ≤ i ∧ i < w5.heap.size)) (.slice av' Q'.length cv') Q' ∧ Q'.map FG.s = ins t st.LH ∧ (∀ q ∈ Q', q ∈ Qh ∨ (q.s = t ∧ q.k = kk)) ∧ Below wd.heap.size wd w5 ∧ RBk w5 B qb st F sa sB sc ah ch ac cc af cf Qh Qc Qf) := ⟨nl5, by rw [HBD.out.2.eh] at em5; exact em5, ek5, b5, HBD.out.2.below b5⟩
  have hS5 : w5.rangeAt g 0 (bv kk) := HBX.out _ (HBD.out.1.trans (b5.mono HBD.out.1.size))
  have ce5 : w5.cell? ⟨qb, 3, none⟩ = some (.slice ah Qh.length ch) := H5.out.2.2.2.2.row.cell (i := 3) (by decide)
  have fz5 : w5.frozen? ⟨qb, 3, none⟩ = false := H5.out.2.2.2.2.row.frozen 3
  refine hK.out _ _ hS5 (fun hS => ?_)
  clear hK K nl5 em5 ek5 b5 nt ce hS5
  try simp only [Act.put, List.setIfInBounds_toArray, List.set_cons_zero, List.set_cons_succ]
  refine wpAnyH_take (i := 8) (v := (.pointer (some ⟨qb, 0, none⟩))) (by simp only [List.getElem?_toArray, List.getElem?_cons_zero, List.getElem?_cons_succ]; rfl) (by kernel_rfl) (by kernel_rfl) (by kernel_rfl) (by exact fun _ _ _ h => h) (y_nil (by kernel_rfl) _ rfl _ rfl) hS ?_
  try simp only [Act.put, List.setIfInBounds_toArray, List.set_cons_zero, List.set_cons_succ]
  refine wpAnyH_take (i := 9) (v := (.pointer (some ⟨qb, 3, none⟩))) (by simp only [List.getElem?_toArray, List.getElem?_cons_zero, List.getElem?_cons_succ]; rfl) (by kernel_rfl) (by kernel_rfl) (by kernel_rfl) (by exact fun _ _ _ h => h) (y_fieldQ (by kernel_rfl) _ 3 rfl qb rfl (by decide)) hS ?_
  try simp only [Act.put, List.setIfInBounds_toArray, List.set_cons_zero, List.set_cons_succ]
  refine wpAnyH_ready (rs := [10]) (by kernel_rfl) (by simp) ?_
  refine AllReadyH.cons (by simp only [List.getElem?_toArray, List.getElem?_cons_zero, List.getElem?_cons_succ]; rfl) (fun K hK => ?_) AllReadyH.nil
  refine r_storeN (by kernel_rfl) _ _ rfl qb 3 rfl av' Q'.length cv' rfl _ ce5 fz5 ?_
  have hS6 : (w5.setCell ⟨qb, 3, none⟩ (.slice av' Q'.length cv')).rangeAt g 0 (bv kk) := fun j u hu => (cell_set_other _ (by intro z; exact HQN.out z.symm)).trans (hS j u hu)
  refine hK.out _ _ hS6 (fun hS => ?_)
  clear hK K hS6 ce5 fz5
  try simp only [Act.put]
  refine wpAnyH_done (by kernel_rfl) ?_ _
  have hne : w.heap.size ≠ qb := fun z => by have := HR.out.row.lt; omega
  have og6 : (w5.setCell ⟨qb, 3, none⟩ (.slice av' Q'.length cv')).heap[w.heap.size]? = some (.cells Z32 31 (0, 0)) := by
    have t6 : Turn (fun i => i = qb) w5 (w5.setCell ⟨qb, 3, none⟩ (.slice av' Q'.length cv')) := Turn.setCell w5 ⟨qb, 3, none⟩ _ rfl
    have bw : Below w1.heap.size w1 w5 := H3.out.1.trans ((HBD.out.1.trans (H5.out.2.2.2.1.mono HBD.out.1.size)).mono H3.out.1.size)
    exact (t6.block w.heap.size (Nat.lt_of_lt_of_le HB.out.2.2 bw.size) hne).trans ((bw.block _ HB.out.2.2).trans HB.out.2.1)
  have HFF : Hid (RTurned w ((w5.setCell ⟨qb, 3, none⟩ (.slice av' Q'.length cv')).setRow w.heap.size (hA kk)) B qb { st with LH := ins t st.LH } F) := by
    have b35 : Below w3.heap.size w3 w5 := HBD.out.1.trans (H5.out.2.2.2.1.mono HBD.out.1.size)
    have b05 : Below w.heap.size w w5 := HW3.out.trans (b35.mono HW3.out.size)
    have wd0 : w.heap.size < wd.heap.size := Nat.lt_of_lt_of_le HB.out.2.2 (Nat.le_trans H3.out.1.size HBD.out.1.size)
    have ql := HR.out.row.lt
    have nF : ∀ i, (F i ∨ (wd.heap.size ≤ i ∧ i < w5.heap.size)) → i ≠ w.heap.size := fun i q z => by
      rcases q with q | q
      · have := (HR.out.lim i q).2; omega
      · omega
    have rb := H5.out.2.2.2.2.noteH (F' := fun i => F i ∨ (wd.heap.size ≤ i ∧ i < w5.heap.size)) (fun i q => Or.inl q) (fun i q => by
      rcases q with q | q
      · exact H5.out.2.2.2.2.lim i q
      · have := HR.out.base; exact ⟨by omega, q.2⟩) (fun q => by
      rcases q with q | q
      · exact HR.out.out q
      · omega) H5.out.1 H5.out.2.1 (fun q hq => by
      rcases H5.out.2.2.1 q hq with z | z
      · exact Or.inl z
      · exact Or.inr ⟨z.1, z.2.trans HKE.out⟩)
    have t7 : Turn (fun i => i = w.heap.size) (w5.setCell ⟨qb, 3, none⟩ (.slice av' Q'.length cv')) ((w5.setCell ⟨qb, 3, none⟩ (.slice av' Q'.length cv')).setRow w.heap.size (hA kk)) := Turn.setRow _ _ _ rfl
    refine ⟨⟨_, fun i q => Or.inl q, fun i q => ?_, rb.turn t7 (fun z => hne z.symm) nF⟩, ((Turn.of_below b05 (F := fun i => i = qb)).trans (Turn.setCell w5 ⟨qb, 3, none⟩ _ (F := fun i => i = qb) rfl) (fun _ q => Or.inl q)).trans t7 (fun i q => Or.inr (by omega))⟩
    rcases q with q | q
    · exact Or.inl q
    · exact Or.inr ⟨by omega, by simpa using q.2⟩
  have bx6 : (w5.setCell ⟨qb, 3, none⟩ (.slice av' Q'.length cv')).heap[g]? = some (.cells (hA kk) 31 (0, 0)) := by
    have t6 : Turn (fun i => i = qb) w5 (w5.setCell ⟨qb, 3, none⟩ (.slice av' Q'.length cv')) := Turn.setCell w5 ⟨qb, 3, none⟩ _ rfl
    have b35 : Below w3.heap.size w3 w5 := HBD.out.1.trans (H5.out.2.2.2.1.mono HBD.out.1.size)
    have lg : g < w3.heap.size := (Array.getElem?_eq_some_iff.1 HGX.out).1
    exact (t6.block g (Nat.lt_of_lt_of_le lg b35.size) (fun z => HQN.out z.symm)).trans ((b35.block g lg).trans HGX.out)
  have hcl : ∀ j, j < (hA kk).size → (w5.setCell ⟨qb, 3, none⟩ (.slice av' Q'.length cv')).cell? ⟨g, j, none⟩ = (hA kk)[j]? := fun j _ => cell_of_row _ _ _ _ 31 _ bx6
  clear hS bx6 HBD HGX HBX
  revert og6 hcl HFF
  generalize w5.setCell ⟨qb, 3, none⟩ (.slice av' Q'.length cv') = w6
  intro og6 HFF hcl
  go_wp2_with (first
    | refine wpList_load_cells_g (by rfl) 31 (.tmp 5) (by rfl) g (by rfl) (hA kk) _ hcl Tryz.underlying31 (by rfl) hi3 ?_
    | refine wpList_store_row (by rfl) 31 (.tmp 4) (.tmp 22) (by rfl) w.heap.size (hA kk) (by rfl) (by rfl) 31 Z32 og6 (hA_info hkk) (hA_Z32 hkk) (hA_one hkk) ?_)
  refine bodyPost_ret (v := .agg (hA kk)) ?_ rfl ?_
  · exact results_cell_row rfl _ _ w.heap.size 31 (hA kk) (0, 0) _ rfl (setRow_heap _ _ _ _ _ _ og6) Tryz.underlying31 rfl (hA_info hkk)
  · exact ⟨rfl, HFF.out⟩
end Go.Proofs.YtlhllbggnpcoaaaGreatDoor
