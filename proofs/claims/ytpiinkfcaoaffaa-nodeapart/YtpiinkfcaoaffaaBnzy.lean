import Derived.Test.YtpiinkfcaoaffaaBlzy
/-
  branchNode.
-/
namespace Go.Proofs.Ytpiinkfcaoaffaa
open Go.RowKit
theorem built29_br (V : List Nat) (f : Bool) (a1 : Option Addr) (n1 c1 : Nat) :
    Try.prog.built 29 [(0, .int .i64 3), (2, .slice a1 n1 c1), (3, .bool f)] = some (nc ⟨3, [], V, f, rz, kz⟩ ⟨.slice none 0 0, .slice a1 n1 c1, .slice none 0 0, fun _ => .slice none 0 0⟩).toArray := by kernel_rfl
theorem wpList_st29n {ops : Array Oper} {rest : List Oper} {op : Oper} {a : Act} {w : World} {Q : Exit → Act → World → Prop} (hw : Region.wanted op (yielded ops a.tmps) = true) (x y : Operand) (ho : op.op = .store 29 x y) (n m : Nd) (u t : Nv) (hn : n.W) (hm : m.W) (h1 : (nc n u).toArray.all (·.oneCell') = true) (g : Nat) (hg : w.heap.size = g)
    (hx : a.eval x = .pointer (some ⟨g, 0, none⟩)) (hy : a.eval y = .agg (nc n u).toArray) (h : wpList Try.prog ops Q rest (a.put op.dst undef) (w.alloc (.cells (nc n u).toArray 29))) :
    wpList Try.prog ops Q (op :: rest) a (w.alloc (.cells (nc m t).toArray 29)) := by
  subst hg
  exact wpList_st29 hw x y ho n m u t hn hm h1 hx hy h
theorem wpList_st26m {ops : Array Oper} {rest : List Oper} {op : Oper} {a : Act} {w : World} {Q : Exit → Act → World → Prop} (hw : Region.wanted op (yielded ops a.tmps) = true) (x y : Operand) (ho : op.op = .store 26 x y) (b o : Nat) (r : Rf) (v : Value) (hr : r.h.length = 32) (h1 : v.oneCell' = true) (ht : w.there b o 34)
    (hx : a.eval x = .pointer (some ⟨b, o, none⟩)) (hy : a.eval y = .agg (rcs r v).toArray) (h : wpList Try.prog ops Q rest (a.put op.dst undef) (w.setCells b o (rcs r v))) : wpList Try.prog ops Q (op :: rest) a w :=
  wpList_g hw (wp_store_mid 26 x y ho b o (rcs r v).toArray hx hy (by rw [List.size_toArray, rcs_len hr]; exact ht) (by rw [List.size_toArray]; exact info_rcs hr v) (all_oneCell_toArray (rcs_one h1)) h)
theorem there_sub {w : World} {g n o m : Nat} (h : w.there g 0 n) (hm : o + m ≤ n) : w.there g o m := fun j hj => by
  have := h (o + j) (by omega)
  rw [Nat.zero_add] at this
  exact this
theorem refOf_some {w : World} {x : It} {vb vi : Value} {r : Rf} (h : Lies Vb w x vb vi) (hr : itR x = some r) : Calls Try.prog 51 #[iv x.l vb vi] w fun e w' => ∃ v, e = .returned (.tuple #[.agg (rcs r v).toArray, .bool true]) ∧ w'.ownsRow w.heap.size 5 1 v r.b.length (bv r.b) ∧ Below w.heap.size w w' ∧ r.W ∧ r.b.length ≤ 1048576 := by
  have hx : ∀ y ∈ x.b, y < 256 := by
    rw [It.eta x] at h
    obtain ⟨_, _, _, _, _, _, _, _, hR, -⟩ := h.opened
    obtain ⟨_, _, _, _, _, hv, _⟩ := hR
    exact (vw_ok hv).2
  have h32 := itR_h32 (x := x)
  have hhb := itR_hb hx
  have hbl := itR_bl (x := x)
  refine (refOf_any h).mono ?_
  rintro e w' ⟨v, rfl, own, b, hy⟩
  rw [hr] at own hy h32 hhb hbl
  exact ⟨v, by rw [hr]; rfl, own, b, ⟨h32, hhb, hy⟩, hbl⟩
theorem refOf_none {w : World} {x : It} {vb vi : Value} (h : Lies Vb w x vb vi) (hr : itR x = none) : Calls Try.prog 51 #[iv x.l vb vi] w fun e w' => ∃ v, e = .returned (.tuple #[.agg (rcs rz v).toArray, .bool false]) ∧ v.oneCell' = true ∧ Below w.heap.size w w' := by
  refine (refOf_any h).mono ?_
  rintro e w' ⟨v, rfl, own, b, -⟩
  exact ⟨v, by rw [hr]; rfl, own_one own, b⟩
/-- what branchNode answers -/
def BnPst (xs : List It) (y : It) (vb : Value) (w : World) (e : Ending) (w' : World) : Prop :=
  ∃ n u, e = .returned (.tuple #[.agg (nc n u).toArray, .bool (itB (xs.take 16) y).isSome]) ∧ Below w.heap.size w w' ∧ n.W ∧ (nc n u).toArray.all (·.oneCell') = true ∧ ∀ m, itB (xs.take 16) y = some m → n = m ∧ Nmade w.heap.size w' n u ∧ Nval n u y vb
set_option maxRecDepth 100000 in
set_option maxHeartbeats 3200000 in
theorem branchNode_any {w : World} {xs : List It} {a : Option Addr} {blk off c : Nat} (h : Its Vb w xs a blk off) (hl : xs.length = 17) {y : It} (hy : xs[16]? = some y) {vb : Value} (hvb : w.cell? ⟨blk, off + 16 * 3 + 1, none⟩ = some vb) : Calls Try.prog 38 #[.slice a 17 c] w (BnPst xs y vb w) := by
  have hz := zv29
  obtain rfl := h.ha (by omega)
  obtain ⟨a1, n1, k1, a2, n2, k2, d0, d1, d2, hL⟩ := h.get 16 y hy
  have evb : vb = .slice a1 n1 k1 := by
    rw [d1] at hvb
    exact (Option.some.inj hvb).symm
  subst evb
  obtain ⟨vl, evl⟩ : ∃ l, l = y.l := ⟨_, rfl⟩
  rw [← evl] at d0
  have HVL : Hid (vl = y.l) := evl
  have hvv : Vb w (.slice a1 n1 k1) y.b := by
    rw [It.eta y] at hL
    obtain ⟨_, _, _, _, _, _, e1, e2, hR, -⟩ := hL.opened
    exact hR
  obtain ⟨V, eV⟩ : ∃ V, V = y.b := ⟨_, rfl⟩
  rw [← eV] at hvv
  have HV : Hid (V = y.b) := eV
  have hVb : ∀ x ∈ V, x < 256 := by
    obtain ⟨_, _, _, _, _, hv, _⟩ := hvv
    exact (vw_ok hv).2
  obtain ⟨_, _, _, _, e, _, _, _, hVl⟩ := hvv
  injection e with e1 e2 e3
  subst e2
  obtain ⟨f, ef⟩ : ∃ f, f = decide (0 < V.length) := ⟨_, rfl⟩
  have HF : Hid (f = decide (0 < V.length)) := ef
  have efi : decide ((0 : Int) < (V.length : Int)) = f := by
    rw [ef]
    by_cases q : 0 < V.length
    · rw [decide_eq_true q, decide_eq_true (by omega)]
    · rw [decide_eq_false q, decide_eq_false (by omega)]
  have efn : decide (0 < V.length) = f := ef.symm
  have nW0 : (⟨3, [], V, f, rz, kz⟩ : Nd).W := ⟨kz_len, rz_w, kz_w, fun x hx => (by cases hx), hVb⟩
  have one0 : (nc ⟨3, [], V, f, rz, kz⟩ ⟨.slice none 0 0, .slice a1 V.length k1, .slice none 0 0, fun _ => .slice none 0 0⟩).toArray.all (·.oneCell') = true := one_of rfl rfl rfl (fun _ _ => rfl)
  have bd := built29_br V f a1 V.length k1
  have B0 : Below w.heap.size w (w.alloc (.cells (nc nz uz).toArray 29)) := below_alloc _ _
  have f0 : (w.alloc (.cells (nc nz uz).toArray 29)).cell? ⟨blk, off + 16 * 3, none⟩ = some (.bool vl) := (B0.cell (World.block_lt_of_cell? _ _ d0)).trans d0
  have f1 : (w.alloc (.cells (nc nz uz).toArray 29)).cell? ⟨blk, off + 16 * 3 + 1, none⟩ = some (.slice a1 V.length k1) := (B0.cell (World.block_lt_of_cell? _ _ d1)).trans d1
  have f2 : (w.alloc (.cells (nc nz uz).toArray 29)).cell? ⟨blk, off + 16 * 3 + 2, none⟩ = some (.slice a2 n2 k2) := (B0.cell (World.block_lt_of_cell? _ _ d2)).trans d2
  have BC : Below w.heap.size w (((w.alloc (.cells (nc nz uz).toArray 29)).alloc (.cells #[.bool vl, .slice a1 V.length k1, .slice a2 n2 k2] 51)).alloc (.cells (nc ⟨3, [], V, f, rz, kz⟩ ⟨.slice none 0 0, .slice a1 V.length k1, .slice none 0 0, fun _ => .slice none 0 0⟩).toArray 29)) := (B0.alloc B0.size _).alloc (by simp; omega) _
  have HW : Hid (Its Vb w xs (some ⟨blk, off, none⟩) blk off ∧ xs.length = 17 ∧ xs[16]? = some y ∧ Below w.heap.size w (((w.alloc (.cells (nc nz uz).toArray 29)).alloc (.cells #[.bool vl, .slice a1 V.length k1, .slice a2 n2 k2] 51)).alloc (.cells (nc ⟨3, [], V, f, rz, kz⟩ ⟨.slice none 0 0, .slice a1 V.length k1, .slice none 0 0, fun _ => .slice none 0 0⟩).toArray 29)) ∧ (((w.alloc (.cells (nc nz uz).toArray 29)).alloc (.cells #[.bool vl, .slice a1 V.length k1, .slice a2 n2 k2] 51)).alloc (.cells (nc ⟨3, [], V, f, rz, kz⟩ ⟨.slice none 0 0, .slice a1 V.length k1, .slice none 0 0, fun _ => .slice none 0 0⟩).toArray 29)).heap.size = w.heap.size + 3) := ⟨h, hl, hy, BC, by simp⟩
  have HG0 : Hid ((((w.alloc (.cells (nc nz uz).toArray 29)).alloc (.cells #[.bool vl, .slice a1 V.length k1, .slice a2 n2 k2] 51)).alloc (.cells (nc ⟨3, [], V, f, rz, kz⟩ ⟨.slice none 0 0, .slice a1 V.length k1, .slice none 0 0, fun _ => .slice none 0 0⟩).toArray 29)).heap[w.heap.size]? = some (.cells (nc nz uz).toArray 29 (0, 0))) := by
    show _ = _
    rw [heap_alloc_old _ _ (by simp; omega), heap_alloc_old _ _ (by simp)]
    exact heap_alloc_new _ _
  have HBX : Hid ((((w.alloc (.cells (nc nz uz).toArray 29)).alloc (.cells #[.bool vl, .slice a1 V.length k1, .slice a2 n2 k2] 51)).alloc (.cells (nc ⟨3, [], V, f, rz, kz⟩ ⟨.slice none 0 0, .slice a1 V.length k1, .slice none 0 0, fun _ => .slice none 0 0⟩).toArray 29)).cell? ⟨w.heap.size + 1, 0, none⟩ = some (.bool vl)) := by
    have := (box_keep (below_alloc ((w.alloc (.cells (nc nz uz).toArray 29)).alloc (.cells #[.bool vl, .slice a1 V.length k1, .slice a2 n2 k2] 51)) (.cells (nc ⟨3, [], V, f, rz, kz⟩ ⟨.slice none 0 0, .slice a1 V.length k1, .slice none 0 0, fun _ => .slice none 0 0⟩).toArray 29))).1
    rw [show (w.alloc (.cells (nc nz uz).toArray 29)).heap.size = w.heap.size + 1 by simp] at this
    exact this
  have HG2 : Hid ((((w.alloc (.cells (nc nz uz).toArray 29)).alloc (.cells #[.bool vl, .slice a1 V.length k1, .slice a2 n2 k2] 51)).alloc (.cells (nc ⟨3, [], V, f, rz, kz⟩ ⟨.slice none 0 0, .slice a1 V.length k1, .slice none 0 0, fun _ => .slice none 0 0⟩).toArray 29)).heap[w.heap.size + 2]? = some (.cells (nc ⟨3, [], V, f, rz, kz⟩ ⟨.slice none 0 0, .slice a1 V.length k1, .slice none 0 0, fun _ => .slice none 0 0⟩).toArray 29 (0, 0))) := by
    have := heap_alloc_new ((w.alloc (.cells (nc nz uz).toArray 29)).alloc (.cells #[.bool vl, .slice a1 V.length k1, .slice a2 n2 k2] 51)) (.cells (nc ⟨3, [], V, f, rz, kz⟩ ⟨.slice none 0 0, .slice a1 V.length k1, .slice none 0 0, fun _ => .slice none 0 0⟩).toArray 29)
    rw [show ((w.alloc (.cells (nc nz uz).toArray 29)).alloc (.cells #[.bool vl, .slice a1 V.length k1, .slice a2 n2 k2] 51)).heap.size = w.heap.size + 2 by simp] at this
    exact this
  clear h hy hL d0 d1 d2 e1 evl eV hvb B0 ef e3 BC
  go_enter Try.func38, Try.ntmps38
  go_wp2_with (first
    | refine wpList_bdL (by kernel_rfl) _ _ (by rfl) _ bd ?_
    | refine wpList_st29n (by kernel_rfl) _ _ (by rfl) ⟨3, [], V, f, rz, kz⟩ nz ⟨.slice none 0 0, .slice a1 V.length k1, .slice none 0 0, fun _ => .slice none 0 0⟩ uz nW0 nz_w one0 (w.heap.size + 1 + 1) (by simp) (by rfl) (by rfl) ?_)
  obtain ⟨W2, eW2⟩ : ∃ W, W = (((w.alloc (.cells (nc nz uz).toArray 29)).alloc (.cells #[.bool vl, .slice a1 V.length k1, .slice a2 n2 k2] 51)).alloc (.cells (nc ⟨3, [], V, f, rz, kz⟩ ⟨.slice none 0 0, .slice a1 V.length k1, .slice none 0 0, fun _ => .slice none 0 0⟩).toArray 29)) := ⟨_, rfl⟩
  rw [← eW2] at HW HG0 HBX HG2 ⊢
  clear eW2
  have HST : Hid (Bl W2 W2 (w.heap.size + 1 + 1) (w.heap.size + 3) V f (.slice a1 V.length k1) (xs.take 16) 0 [] (fun _ => .slice none 0 0)) :=
    ⟨rfl, rng_row HG2.out, there_row HG2.out 582 (by rw [nc_len nW0]; omega), fun j x r _ hr => by simp at hr, fun r hr => (by cases hr), fun j r hr => by simp at hr, fun r hr => (by cases hr), fun j _ => rfl, fun a b ha => by omega, Turn.refl _ _, ⟨by omega, by rw [HW.out.2.2.2.2]; omega⟩⟩
  clear HG2
  go_loopg [18] 16 (fun gg k wr => ∃ (i : Nat) (l : List Rf) (kk : Nat → Value), i ≤ 16 ∧ gg = 16 - i ∧ k = .int .i64 i ∧ Bl W2 wr (w.heap.size + 1 + 1) (w.heap.size + 3) V f (.slice a1 V.length k1) (xs.take 16) i l kk)
  case atStart => exact ⟨0, [], _, by omega, rfl, rfl, HST.out⟩
  case round =>
    obtain ⟨i, l, kk, hi, rfl, rfl, hbl⟩ := hrel
    have Bw : Below w.heap.size w wr := HW.out.2.2.2.1.trans (hbl.turn.below (B := w.heap.size) (fun q e => by omega) HW.out.2.2.2.1.size)
    by_cases hin : i < 16
    · have i1 : (i : Int) < 16 := by omega
      have i2 : (i : Int) < 17 := by omega
      obtain ⟨-, x, b1, m1, l1, b2, m2, l2, hx, hxm, e0, e1, e2, hLx⟩ := HW.out.1.nth Bw (i := i) (by have := HW.out.2.1; omega)
      have hx16 : (xs.take 16)[i]? = some x := by rw [List.getElem?_take_of_lt hin]; exact hx
      cases hR : itR x with
      | some r =>
        have K := refOf_some hLx hR
        obtain ⟨xl, exl⟩ : ∃ l, l = x.l := ⟨_, rfl⟩
        rw [← exl] at K e0
        have HX : Hid ((xs.take 16)[i]? = some x ∧ itR x = some r ∧ Bl W2 wr (w.heap.size + 1 + 1) (w.heap.size + 3) V f (.slice a1 V.length k1) (xs.take 16) i l kk ∧ Below w.heap.size w wr) := ⟨hx16, hR, hbl, Bw⟩
        clear hx hxm hLx hR exl hbl hx16 Bw
        go_wp2_with (first
          | (go_at_call 51; refine K.mono ?_; rintro e w3 ⟨v, rfl, own, b3, rW, rl⟩; have HY : Hid (w3.ownsRow wr.heap.size 5 1 v r.b.length (bv r.b) ∧ Below wr.heap.size wr w3 ∧ r.W ∧ r.b.length ≤ 1048576) := ⟨own, b3, rW, rl⟩; have hr32 := rW.1; have o1 := own_one own; have ht := there_sub (o := 38 + i * 34) (m := 34) (there_same HX.out.2.2.1.thr (b3.block _ HX.out.2.2.1.lt)) (by omega); clear own b3 rW rl K)
          | refine wpList_st26m (by kernel_rfl) _ _ (by rfl) (w.heap.size + 1 + 1) (38 + i * 34) r v hr32 o1 ht (by rfl) (by rfl) ?_)
        go_roundg (16 - (i + 1))
        case measure => omega
        case rel =>
          exact ⟨i + 1, l ++ [r], _, hin, rfl, by go_num, HX.out.2.2.1.next hin hVb HX.out.1 HX.out.2.1 HY.out.2.2.1 HY.out.2.2.2 HY.out.2.1 HY.out.1⟩
      | none =>
        have K := refOf_none hLx hR
        obtain ⟨z, ez⟩ : ∃ z, z = rz := ⟨_, rfl⟩
        rw [← ez] at K
        have hz32 : z.h.length = 32 := by rw [ez]; exact z32_len
        clear ez
        obtain ⟨xl, exl⟩ : ∃ l, l = x.l := ⟨_, rfl⟩
        rw [← exl] at K e0
        have HX : Hid (itB (xs.take 16) y = none ∧ Bl W2 wr (w.heap.size + 1 + 1) (w.heap.size + 3) V f (.slice a1 V.length k1) (xs.take 16) i l kk ∧ Below w.heap.size w wr) := ⟨by unfold itB; rw [itRs_none hx16 hR], hbl, Bw⟩
        clear hx hxm hLx hR exl hbl hx16 Bw
        go_wp2_with (first
          | (go_at_call 51; refine K.mono ?_; rintro e w3 ⟨v, rfl, o1, b3⟩; have HY : Hid (Below wr.heap.size wr w3) := b3; have ht := there_sub (o := 38 + i * 34) (m := 34) (there_same HX.out.2.1.thr (b3.block _ HX.out.2.1.lt)) (by omega); have tt := turn_setCells (F := fun q => q = (w.heap.size + 1 + 1)) rfl (rcs z v) (38 + i * 34) w3; have HG9 : Hid ((w3.setCells (w.heap.size + 1 + 1) (38 + i * 34) (rcs z v)).heap[w.heap.size]? = some (.cells (nc nz uz).toArray 29 (0, 0))) := (tt.block _ (by have := b3.size; have := HX.out.2.1.hB; omega) (by omega)).trans ((b3.block _ (by have := HX.out.2.1.hB; omega)).trans ((HX.out.2.1.turn.block _ (by have := HW.out.2.2.2.2; omega) (by omega)).trans HG0.out)); have B9 : Hid (Below w.heap.size w (w3.setCells (w.heap.size + 1 + 1) (38 + i * 34) (rcs z v))) := ((ch HX.out.2.2 b3).trans (tt.below (fun q e => by omega) (by have := HX.out.2.2.size; have := b3.size; omega))); clear b3 K tt)
          | refine wpList_st26m (by kernel_rfl) _ _ (by rfl) (w.heap.size + 1 + 1) (38 + i * 34) z v hz32 o1 ht (by rfl) (by rfl) ?_
          | refine wpList_bd29 (by kernel_rfl) (by rfl) ?_
          | (refine wpList_st29b (by kernel_rfl) _ _ (by rfl) w.heap.size nz nz uz uz nz_w nz_w (nin_zero w).one ?_ (by rfl) (by rfl) ?_; exact HG9.out))
        have g9 := HG9.out
        have hr3 := setRow_heap (w3.setCells (w.heap.size + 1 + 1) (38 + i * 34) (rcs z v)) w.heap.size _ (nc nz uz).toArray _ _ g9
        refine bodyPost_ret (res2n rfl _ _ w.heap.size _ _ _ nz_w (rng_row hr3) rfl rfl) rfl ?_
        refine ⟨nz, uz, by rw [HX.out.1]; rfl, below_setRow B9.out (by omega) _, nz_w, (nin_zero w).one, fun m hm => ?_⟩
        rw [HX.out.1] at hm
        cases hm
    · have i1 : ¬ (i : Int) < 16 := by omega
      obtain rfl : i = 16 := by omega
      have hI : itRs (xs.take 16) = some l := itRs_of (by rw [hbl.len, List.length_take, HW.out.2.1]; rfl) hbl.it
      have g9 : wr.heap[w.heap.size]? = some (.cells (nc nz uz).toArray 29 (0, 0)) := (hbl.turn.block _ (by have := HW.out.2.2.2.2; omega) (by omega)).trans HG0.out
      have bx9 : wr.cell? ⟨w.heap.size + 1, 0, none⟩ = some (.bool vl) := (hbl.turn.cell (q := ⟨w.heap.size + 1, 0, none⟩) (by have := HW.out.2.2.2.2; show w.heap.size + 1 < _; omega) (by show ¬ w.heap.size + 1 = w.heap.size + 1 + 1; omega)).trans HBX.out
      have rg := hbl.rng
      have nW : (⟨3, [], V, f, rz, l ++ List.replicate (16 - 16) rz⟩ : Nd).W := hbl.W (by omega) hVb
      rw [Nat.sub_self, List.replicate_zero, List.append_nil] at rg nW
      have hk1 : ∀ j, j < l.length → (kk j).oneCell' = true := fun j hj => own_one (hbl.own j _ (List.getElem?_eq_getElem hj))
      have one : (nc ⟨3, [], V, f, rz, l⟩ ⟨.slice none 0 0, .slice a1 V.length k1, .slice none 0 0, kk⟩).toArray.all (·.oneCell') = true := one_of rfl rfl rfl hk1
      have HC : Hid (∀ w', Turn (fun q => q = w.heap.size) wr w' → w'.cell? ⟨w.heap.size + 1, 0, none⟩ = some (.bool vl) ∧ w'.rangeAt (w.heap.size + 1 + 1) 0 (nc ⟨3, [], V, f, rz, l⟩ ⟨.slice none 0 0, .slice a1 V.length k1, .slice none 0 0, kk⟩)) := fun w' k => ⟨(k.cell (q := ⟨w.heap.size + 1, 0, none⟩) (World.block_lt_of_cell? _ _ bx9) (by show ¬ w.heap.size + 1 = w.heap.size; omega)).trans bx9, rng_same rg (k.block _ hbl.lt (by omega))⟩
      have HX : Hid (itRs (xs.take 16) = some l ∧ Bl W2 wr (w.heap.size + 1 + 1) (w.heap.size + 3) V f (.slice a1 V.length k1) (xs.take 16) 16 l kk ∧ Below w.heap.size w wr) := ⟨hI, hbl, Bw⟩
      have HG : Hid (wr.heap[w.heap.size]? = some (.cells (nc nz uz).toArray 29 (0, 0))) := g9
      clear hI g9 bx9 rg hk1 hbl Bw
      go_upto_region 11 with (fail)
      refine wp_region_held_drew (S := fun w' => Turn (fun q => q = w.heap.size) wr w') (by kernel_rfl) (Turn.drew wr) ?_
      intro hS
      change wpAnyH _ _ _ _ _ 6 _ _ _
      refine wpAnyH_take (i := 0) (v := (.agg (nc ⟨3, [], V, f, rz, l⟩ ⟨.slice none 0 0, .slice a1 V.length k1, .slice none 0 0, kk⟩).toArray)) (by simp only [List.getElem?_toArray, List.getElem?_cons_zero]; rfl) (by kernel_rfl) (by kernel_rfl) (by kernel_rfl) (by exact fun _ _ _ h => h) (y_ld29 (by kernel_rfl) _ rfl _ rfl _ _ nW (fun w' hs => (HC.out w' hs).2)) hS ?_
      try simp only [Act.put, List.setIfInBounds_toArray, List.set_cons_zero, List.set_cons_succ]
      refine wpAnyH_take (i := 1) (v := (.pointer (some ⟨w.heap.size + 1, 0, none⟩))) (by simp only [List.getElem?_toArray, List.getElem?_cons_zero, List.getElem?_cons_succ]; rfl) (by kernel_rfl) (by kernel_rfl) (by kernel_rfl) (by exact fun _ _ _ h => h) (y_f62 (by kernel_rfl) _ 0 rfl _ 0 rfl (by omega)) hS ?_
      try simp only [Act.put, List.setIfInBounds_toArray, List.set_cons_zero, List.set_cons_succ]
      refine wpAnyH_take (i := 2) (v := (.bool vl)) (by simp only [List.getElem?_toArray, List.getElem?_cons_zero, List.getElem?_cons_succ]; rfl) (by kernel_rfl) (by kernel_rfl) (by kernel_rfl) (by exact fun _ _ _ h => h) (y_load4 (by kernel_rfl) _ rfl _ _ rfl _ (fun w' hs => (HC.out w' hs).1)) hS ?_
      try simp only [Act.put, List.setIfInBounds_toArray, List.set_cons_zero, List.set_cons_succ]
      refine wpAnyH_take (i := 3) (v := (.bool (!vl))) (by simp only [List.getElem?_toArray, List.getElem?_cons_zero, List.getElem?_cons_succ]; rfl) (by kernel_rfl) (by kernel_rfl) (by kernel_rfl) (by exact fun _ _ _ h => h) (y_not (by kernel_rfl) _ rfl _ rfl) hS ?_
      try simp only [Act.put, List.setIfInBounds_toArray, List.set_cons_zero, List.set_cons_succ]
      refine wpAnyH_ready (rs := [4]) (by kernel_rfl) (by simp) ?_
      refine AllReadyH.cons (by simp only [List.getElem?_toArray, List.getElem?_cons_zero, List.getElem?_cons_succ]; rfl) (fun K hK => ?_) AllReadyH.nil
      refine r_st29b (by kernel_rfl) _ _ rfl w.heap.size ⟨3, [], V, f, rz, l⟩ nz ⟨.slice none 0 0, .slice a1 V.length k1, .slice none 0 0, kk⟩ uz nW nz_w one HG.out rfl rfl ?_
      refine hK.out _ _ (hS.trans (Turn.setRow (F := fun q => q = w.heap.size) _ _ _ rfl) (fun _ q => Or.inl q)) (fun hS => ?_)
      clear hK K
      try simp only [Act.put]
      refine wpAnyH_take (i := 5) (v := (.bool (!vl))) (by simp only [List.getElem?_toArray, List.getElem?_cons_zero, List.getElem?_cons_succ]; rfl) (by kernel_rfl) (by kernel_rfl) (by kernel_rfl) (by exact fun _ _ _ h => h) (y_assign (by kernel_rfl) _ rfl _ rfl) hS ?_
      try simp only [Act.put, List.setIfInBounds_toArray, List.set_cons_zero, List.set_cons_succ]
      refine wpAnyH_done (by kernel_rfl) ?_ _
      clear hS
      go_wp2_with fail
      have hr3 := setRow_heap wr.drew w.heap.size _ (nc ⟨3, [], V, f, rz, l⟩ ⟨.slice none 0 0, .slice a1 V.length k1, .slice none 0 0, kk⟩).toArray _ _ HG.out
      refine bodyPost_ret (res2n rfl _ _ w.heap.size _ _ _ nW (rng_row hr3) rfl rfl) rfl ?_
      have HI : itB (xs.take 16) y = if y.l then none else some ⟨3, [], V, f, rz, l⟩ := by unfold itB; rw [HX.out.1, HF.out, HV.out]
      have hbl := HX.out.2.1
      have hvl : (itB (xs.take 16) y).isSome = !vl := by rw [HI, ← HVL.out]; cases vl <;> rfl
      refine ⟨⟨3, [], V, f, rz, l⟩, ⟨.slice none 0 0, .slice a1 V.length k1, .slice none 0 0, kk⟩, by rw [hvl]; rfl, below_setRow HX.out.2.2.drew (by omega) _, nW, one, fun m hm => ?_⟩
      rw [HI] at hm
      split at hm
      · cases hm
      · rename_i hyl
        cases hm
        refine ⟨rfl, ⟨own_nil _ _, own_nil _ _, fun {j r} hr => ?_, by show (0 : Nat) ≤ _; omega, by show (0 : Nat) ≤ _; omega, hbl.lb, fun a b ha hb hab a1' b1' g hg => ?_⟩, Or.inl ⟨rfl, HV.out, by simpa using hyl⟩⟩
        · have ho := hbl.own j r hr
          refine own_setRow' (own_rebase (own_same ho (fun q _ => rfl)) (fun q hq => by have := (ho.lt q hq).1; omega)) (fun q hq => ?_) _
          have := (ho.lt q hq).1
          omega
        · match a, b with
          | 0, _ => cases hg
          | 2, _ => cases hg
          | _ + 3, 0 => exact fun h => by cases h
          | _ + 3, 2 => exact fun h => by cases h
          | a + 3, b + 3 => exact hbl.apart a b (by omega) (by omega) (by omega) g hg
end Go.Proofs.Ytpiinkfcaoaffaa
