/-
  cairnref05.read: a list.
-/
import Derived.Test.YtlpmcdnhnhgmpaaRd3
import Derived.Test.YtlpmcdnhnhgmpaaSpl
namespace Go.Proofs.Ytlpmcdnhnhgmpaa
open Go.RowKit

/-- A LIST AS FAR AS 34 IS READ, by the reference: the answer's variable, the item's, v its items. -/
structure Rg (w wr : World) (v : Value) (xs : List It) (ys : List (Bool × Value × Value)) (sf tf : Nat → Nat) : Prop where
  gl : Gl 34 [] (w.heap.size + 2) (w.heap.size + 1) wr true (.slice none 0 0) v xs ys sf tf
  below : Below w.heap.size w wr
  res : B6 wr w.heap.size (.bool false) (.slice none 0 0) (.slice none 0 0) (.int .i64 0) (.int .i64 0) (.int .i64 0)
theorem Rg.start (w : World) : Rg w ((w.alloc (.cells #[.bool false, .slice none 0 0, .slice none 0 0, .int .i64 0, .int .i64 0, .int .i64 0] 75)).alloc (.cells #[.bool true, .slice none 0 0, .slice none 0 0] 34)) (.slice none 0 0) [] [] (fun _ => 0) (fun _ => 0) := by
  refine ⟨Gl.start ?_ (by omega) (by simp), ch (below_alloc _ _) (below_alloc _ _), ?_⟩
  · have := heap_alloc_new (w.alloc (.cells #[.bool false, .slice none 0 0, .slice none 0 0, .int .i64 0, .int .i64 0, .int .i64 0] 75)) (.cells #[.bool true, .slice none 0 0, .slice none 0 0] 34)
    simp only [World.size_alloc] at this
    exact this
  · exact (heap_alloc_old _ _ (by simp)).trans (heap_alloc_new _ _)
theorem Rg.next {w wr w3 w9 : World} {v v' vy vz : Value} {xs : List It} {ys : List (Bool × Value × Value)} {sf tf : Nat → Nat} {y : It} {o o' : Obj} (h : Rg w wr v xs ys sf tf) (b3 : Below wr.heap.size wr w3) (ho : Og 34 [] w3 wr.heap.size w3.heap.size y vy vz)
    (own' : w9.ownsRow (w.heap.size + 2) 34 3 v' (xs.length + 1) (fl ys ++ [.bool y.l, vy, vz])) (gr : ((w3.alloc o).alloc o').grownBy w9 v.ownBlock) (hg : ∀ g, v'.ownBlock = some g → v.ownBlock = some g ∨ (w3.alloc o).heap.size ≤ g) :
    ∃ sf' tf', Rg w (w9.setCell ⟨w.heap.size + 1, 2, none⟩ v') v' (xs ++ [y]) (ys ++ [(y.l, vy, vz)]) sf' tf' := by
  have b2 : Below wr.heap.size wr (w3.alloc o) := ch b3 (below_alloc _ _)
  have ho2 : Og 34 [] (w3.alloc o) wr.heap.size w3.heap.size y vy vz := ho.keep (below_alloc _ _) (Nat.le_refl _)
  obtain ⟨⟨sf', tf', hG⟩, hk, hs⟩ := h.gl.next b2 ho2 (Nat.le_refl _) (by simp) own' gr hg
  have hL := h.gl.ls
  have ne : ∀ k, k ≤ w.heap.size → v.ownBlock ≠ some k := fun k k1 e => by have := (h.gl.own.lt k e).1; omega
  refine ⟨sf', tf', hG, ?_, h.res.keep (hk _ (by omega) (by omega) (ne _ (Nat.le_refl _)))⟩
  refine ⟨?_, ?_, ?_, by have := h.below.size; omega, fun k k1 => (hk k (by omega) (by omega) (ne k (by omega))).trans (h.below.block k k1)⟩
  · show w9.os = _
    exact gr.os.trans (b2.os.trans h.below.os)
  · show w9.tape = _
    exact gr.tape.trans (b2.tape.trans h.below.tape)
  · show w9.output = _
    exact gr.output.trans (b2.output.trans h.below.output)

set_option maxRecDepth 100000 in
set_option maxHeartbeats 3200000 in
theorem rread192_k (d : Nat) (KI : ∀ (w : World) (a : Option Addr) (b off n c : Nat) (s : List Nat) (p e : Nat), Rp w a b off n c s e d → p ≤ e → Calls Try.prog 34 #[.slice a n c, .int .i64 p, .int .i64 e, .int .i64 ((80 - d : Nat) : Int)] w (RPost s d p e w))
    (w : World) (a : Option Addr) (b off n c : Nat) (s : List Nat) (p e m : Nat) (h : Rp w a b off n c s e (d + 1)) (hp : p < e) (hg : gd s p = 192 + m) (hm : m < 64) (h1 : m < 56) (h2 : ¬ e - (p + 1) < m) :
    Calls Try.prog 34 #[.slice a n c, .int .i64 p, .int .i64 e, .int .i64 ((80 - (d + 1) : Nat) : Int)] w (RPost s (d + 1) p e w) := by
  have HR : Hid (rd s (d + 1) p e = rdL (rd s d) (p + 1 + m - (p + 1)) (p + 1) (p + 1 + m) []) := by
    show _ = _
    rw [rd_eq, if_neg (by omega), if_neg (by omega), if_neg (by omega), if_neg (by omega), show gd s p - 192 = m by omega]
    rw [rdHead, if_pos h1, if_neg h2]
    rfl
  have hen := h.en
  obtain ⟨rfl, c0, hx⟩ := h.vp.cell (i := p) (by omega)
  have hbw : b < w.heap.size := World.block_lt_of_cell? _ _ c0
  have hn : n ≤ 1048576 := by have := h.vp.len; have := h.vp.small; omega
  rw [hg, show ((192 + m : Nat) : Int) = 192 + (m : Int) by omega] at c0
  replace c0 := ((below_alloc w (.cells #[.bool false, .slice none 0 0, .slice none 0 0, .int .i64 0, .int .i64 0, .int .i64 0] 75)).cell (p := ⟨b, off + p, none⟩) hbw).trans c0
  have i0 : ¬ (p : Int) = e := by omega
  have i0b : ((p : Int) == (e : Int)) = false := by simpa using i0
  have i1 : ¬ 192 + (m : Int) < 128 := by omega
  have i2 : (p : Int) < n := by omega
  have i3 : (192 : Int) ≤ 192 + (m : Int) := by omega
  have i4 : 192 + (m : Int) - 192 = m := by omega
  have i4b : 192 + (m : Int) - 128 = m + 64 := by omega
  obtain ⟨dd, edd⟩ : ∃ dd, dd = 80 - (d + 1) := ⟨_, rfl⟩
  have hdd : dd + 1 ≤ 80 := by have := h.dep; omega
  rw [← edd]
  have i5 : ¬ (80 : Int) < (dd : Int) + 1 := by omega
  have ed2 : 80 - d = dd + 1 := by have := h.dep; omega
  rw [ed2] at KI
  clear edd
  have i6 : (m : Int) < 56 := by omega
  have i6b : ¬ (56 : Int) ≤ (m : Int) := by omega
  have i8 : ¬ (e : Int) - ((p : Int) + 1) < m := by omega
  have HAZ : Hid (p + 1 ≤ p + 1 + m ∧ p + 1 + m ≤ 1048576) := ⟨by omega, by omega⟩
  have hz63 : p + 1 + m ≤ 1048576 := HAZ.out.2
  have HRO : Hid (∀ at_ y z, at_ ≤ p + 1 + m → rd s d at_ (p + 1 + m) = .ok y z → at_ < z ∧ z ≤ p + 1 + m) := fun at_ y z h1 h2 => by
    have := rd_ok h.vp.ok d at_ (p + 1 + m) y z (by have := h.vp.len; omega) h1 h2
    exact ⟨this.1, this.2.1⟩
  have HKI : Hid (∀ (wr : World) (at_ : Nat), Below w.heap.size w wr → at_ ≤ p + 1 + m → Calls Try.prog 34 #[.slice (some ⟨b, off, none⟩) n c, .int .i64 at_, .int .i64 ((p : Int) + 1 + m), .int .i64 ((dd : Int) + 1)] wr (RPost s d at_ (p + 1 + m) wr)) := fun wr at_ kb hat => by
    have := KI wr (some ⟨b, off, none⟩) b off n c s at_ (p + 1 + m) ⟨h.vp.keep kb, h.all, by omega, by have := h.dep; omega⟩ hat
    rwa [show ((dd + 1 : Nat) : Int) = (dd : Int) + 1 by omega, show (((p + 1 + m : Nat)) : Int) = (p : Int) + 1 + m by omega] at this
  obtain ⟨i34, hi0, hz0, hz1, hz2⟩ := info_parts infoItR
  have HII : Hid (Try.prog.info? 34 = some i34 ∧ i34.zero = some (.agg #[.bool false, .slice none 0 0, .slice none 0 0]) ∧ i34.size = 3 ∧ i34.bytes = 56) := ⟨hi0, hz0, hz1, hz2⟩
  clear KI h hg hi0 hz0 hz1 hz2 ed2
  go_enter Try.func34, Try.ntmps34
  go_wp2_with fail
  go_loopg [12] ((p + 1 + m) - (p + 1)) (fun gg u wr => ∃ (at_ f : Nat) (v : Value) (xs : List It) (ys : List (Bool × Value × Value)) (sf tf : Nat → Nat), (p + 1) + xs.length ≤ at_ ∧ at_ ≤ (p + 1 + m) ∧ gg = (p + 1 + m) - at_ ∧ (p + 1 + m) - at_ ≤ f ∧ u = .int .i64 at_ ∧ rdL (rd s d) ((p + 1 + m) - (p + 1)) (p + 1) (p + 1 + m) [] = rdL (rd s d) f at_ (p + 1 + m) xs ∧ Rg w wr v xs ys sf tf)
  case atStart => exact ⟨(p + 1), (p + 1 + m) - (p + 1), _, [], [], _, _, by simp, HAZ.out.1, rfl, Nat.le_refl _, by first | rfl | go_num, rfl, Rg.start w⟩
  case round =>
    obtain ⟨at_, f, v, xs, ys, sf, tf, hxa, haz, rfl, hf, rfl, hrl, hR⟩ := hrel
    have HRL : Hid (rdL (rd s d) ((p + 1 + m) - (p + 1)) (p + 1) (p + 1 + m) [] = rdL (rd s d) f at_ (p + 1 + m) xs) := hrl
    have HRR : Hid (Rg w wr v xs ys sf tf) := hR
    obtain ⟨av, cv, ev⟩ := own_slice hR.gl.own
    subst ev
    clear hrl hR
    by_cases hin : at_ < (p + 1 + m)
    · have i1' : (at_ : Int) < (p : Int) + 1 + m := by omega
      obtain ⟨f', rfl⟩ : ∃ f', f = f' + 1 := ⟨f - 1, by omega⟩
      have KK := HKI.out wr at_ HRR.out.below haz
      have er : ∀ r w', RPost s d at_ ((p + 1 + m)) wr r w' → Below wr.heap.size wr w' ∧ match rd s d at_ ((p + 1 + m)) with
          | .ok x z => ∃ vb vi, r = .returned (.agg #[.bool x.l, vb, vi, .int .i64 (z : Nat), .int .i64 0, .int .i64 0]) ∧ Og 34 [] w' wr.heap.size w'.heap.size x vb vi
          | .bad q c => r = .returned (rdBad q c) := fun r w' h => h
      have HRS := HRL.out
      rw [rdL, if_pos hin] at HRS
      cases hrd : rd s d at_ ((p + 1 + m)) with
      | bad q cd =>
        rw [hrd] at er HRS
        have HX : Hid (rd s (d + 1) p e = .bad q cd) := HR.out.trans HRS
        have hcd := rd_bad d at_ _ q cd hrd
        have icd : ¬ (cd : Int) = 0 := by omega
        have icdb : ((cd : Int) == 0) = false := by simpa using icd
        clear hrd HRS
        go_wp2_with fail
        refine KK.mono ?_
        intro r w3 hr
        obtain ⟨hb3, rfl⟩ := er r w3 hr
        have hb6 : B6 (w3.alloc (.cells #[.bool false, .slice none 0 0, .slice none 0 0, .int .i64 0, .int .i64 (q : Nat), .int .i64 (cd : Nat)] 75)) w.heap.size (.bool false) (.slice none 0 0) (.slice none 0 0) (.int .i64 0) (.int .i64 0) (.int .i64 0) := HRR.out.res.keep ((ch hb3 (below_alloc _ _)).block _ HRR.out.res.lt)
        have HZ : Hid (Below wr.heap.size wr w3 ∧ B6 (w3.alloc (.cells #[.bool false, .slice none 0 0, .slice none 0 0, .int .i64 0, .int .i64 (q : Nat), .int .i64 (cd : Nat)] 75)) w.heap.size (.bool false) (.slice none 0 0) (.slice none 0 0) (.int .i64 0) (.int .i64 0) (.int .i64 0)) := ⟨hb3, hb6⟩
        have x0 := hb6.cell 0
        have x1 := hb6.cell 1
        have x2 := hb6.cell 2
        have x3 := hb6.cell 3
        have x4 := hb6.cell 4
        have x5 := hb6.cell 5
        simp only [List.getElem?_toArray, List.getElem?_cons_zero, List.getElem?_cons_succ] at x0 x1 x2 x3 x4 x5
        have f0 := hb6.frozen 0
        have f1 := hb6.frozen 1
        have f2 := hb6.frozen 2
        have f3 := hb6.frozen 3
        have f4 := hb6.frozen 4
        have f5 := hb6.frozen 5
        clear hr hb3 hb6 KK er
        go_wp2_with fail
        refine bodyPost_ret (res75 rfl _ rfl HZ.out.2.set) rfl ?_
        have t6 := set6_turn (w3.alloc (.cells #[.bool false, .slice none 0 0, .slice none 0 0, .int .i64 0, .int .i64 (q : Nat), .int .i64 (cd : Nat)] 75)) w.heap.size (.bool false) (.slice none 0 0) (.slice none 0 0) (.int .i64 0) (.int .i64 (q : Nat)) (.int .i64 (cd : Nat))
        unfold RPost
        rw [HX.out]
        exact ⟨(ch HRR.out.below (ch HZ.out.1 (below_alloc _ _))).trans (t6.below (fun i q => by omega) (by have := HRR.out.below.size; have := HZ.out.1.size; simp; omega)), rfl⟩
      | ok y z =>
        rw [hrd] at er HRS
        dsimp only at HRS
        have HX : Hid (rdL (rd s d) ((p + 1 + m) - (p + 1)) (p + 1) (p + 1 + m) [] = rdL (rd s d) f' z (p + 1 + m) (xs ++ [y])) := HRS
        have hz := HRO.out at_ y z haz hrd
        clear hrd HRS
        go_wp2_with fail
        refine KK.mono ?_
        intro r w3 hr
        obtain ⟨hb3, vb, vi, rfl, ho⟩ := er r w3 hr
        obtain ⟨a1, n1, q1, a2, n2, q2, rfl, rfl⟩ := ho.lies.form
        have xb : Bx (w3.alloc (.cells #[.bool y.l, .slice a1 n1 q1, .slice a2 n2 q2, .int .i64 (z : Nat), .int .i64 0, .int .i64 0] 75)) (w.heap.size + 1) 34 (.bool true) (.slice none 0 0) (.slice av xs.length cv) := HRR.out.gl.box.keep ((ch hb3 (below_alloc _ _)).block _ HRR.out.gl.box.lt)
        obtain ⟨xc0, xc1, xc2, -⟩ := xb.cells
        have HZ : Hid (Below wr.heap.size wr w3 ∧ Og 34 [] w3 wr.heap.size w3.heap.size y (.slice a1 n1 q1) (.slice a2 n2 q2) ∧ Bx (w3.alloc (.cells #[.bool y.l, .slice a1 n1 q1, .slice a2 n2 q2, .int .i64 (z : Nat), .int .i64 0, .int .i64 0] 75)) (w.heap.size + 1) 34 (.bool true) (.slice none 0 0) (.slice av xs.length cv)) := ⟨hb3, ho, xb⟩
        have own4 : ((w3.alloc (.cells #[.bool y.l, .slice a1 n1 q1, .slice a2 n2 q2, .int .i64 (z : Nat), .int .i64 0, .int .i64 0] 75)).alloc (.cells #[.bool y.l, .slice a1 n1 q1, .slice a2 n2 q2] 34)).ownsRow (w.heap.size + 2) 34 3 (.slice av xs.length cv) xs.length (fl ys) :=
          own_same HRR.out.gl.own (fun g hg => (ch (ch hb3 (below_alloc _ _)) (below_alloc _ _)).block g (HRR.out.gl.own.lt g hg).2)
        have nw := World.news_of_block (w := (w3.alloc (.cells #[.bool y.l, .slice a1 n1 q1, .slice a2 n2 q2, .int .i64 (z : Nat), .int .i64 0, .int .i64 0] 75)).alloc (.cells #[.bool y.l, .slice a1 n1 q1, .slice a2 n2 q2] 34)) (B := w3.heap.size + 1) (cs := #[.bool y.l, .slice a1 n1 q1, .slice a2 n2 q2]) (t := 34) (fr := (0, 0)) (by have := heap_alloc_new (w3.alloc (.cells #[.bool y.l, .slice a1 n1 q1, .slice a2 n2 q2, .int .i64 (z : Nat), .int .i64 0, .int .i64 0] 75)) (.cells #[.bool y.l, .slice a1 n1 q1, .slice a2 n2 q2] 34); rw [World.size_alloc] at this; exact this)
        have HO4 : Hid (((w3.alloc (.cells #[.bool y.l, .slice a1 n1 q1, .slice a2 n2 q2, .int .i64 (z : Nat), .int .i64 0, .int .i64 0] 75)).alloc (.cells #[.bool y.l, .slice a1 n1 q1, .slice a2 n2 q2] 34)).ownsRow (w.heap.size + 2) 34 3 (.slice av xs.length cv) xs.length (fl ys)) := own4
        have HNW : Hid (∀ (j : Nat) (u : Value), #[Value.bool y.l, .slice a1 n1 q1, .slice a2 n2 q2].toList[j]? = some u → ((w3.alloc (.cells #[.bool y.l, .slice a1 n1 q1, .slice a2 n2 q2, .int .i64 (z : Nat), .int .i64 0, .int .i64 0] 75)).alloc (.cells #[.bool y.l, .slice a1 n1 q1, .slice a2 n2 q2] 34)).cell? ((⟨w3.heap.size + 1, 0, none⟩ : Addr).add j) = some u) := nw
        have hsz : w.heap.size + 2 ≤ w3.heap.size := by have := HRR.out.gl.ls; have := hb3.size; omega
        have hxl : xs.length + 1 ≤ 1048576 := by have := HAZ.out.2; omega
        have HB9 : Hid (∀ w9, ((w3.alloc (.cells #[.bool y.l, .slice a1 n1 q1, .slice a2 n2 q2, .int .i64 (z : Nat), .int .i64 0, .int .i64 0] 75)).alloc (.cells #[.bool y.l, .slice a1 n1 q1, .slice a2 n2 q2] 34)).grownBy w9 (Value.slice av xs.length cv).ownBlock → Bx w9 (w.heap.size + 1) 34 (.bool true) (.slice none 0 0) (.slice av xs.length cv) ∧ ∀ v9, (w9.setCell ⟨w.heap.size + 1, 2, none⟩ v9).cell? ⟨w3.heap.size, 3, none⟩ = some (.int .i64 (z : Nat))) := fun w9 gr => by
          refine ⟨HZ.out.2.2.keep ?_, fun v9 => ?_⟩
          · rw [gr.block _ (by simp; omega) (fun e2 => by have := (HRR.out.gl.own.lt _ e2.symm).1; omega)]
            exact heap_alloc_old _ _ (by simp; omega)
          · have b6 : B6 w9 w3.heap.size (.bool y.l) (.slice a1 n1 q1) (.slice a2 n2 q2) (.int .i64 (z : Nat)) (.int .i64 0) (.int .i64 0) := by
              show _ = _
              rw [gr.block _ (by simp; omega) (fun e2 => by have := (HRR.out.gl.own.lt _ e2.symm).2; have := HZ.out.1.size; omega), heap_alloc_old _ _ (by simp)]
              exact heap_alloc_new _ _
            have t9 := Turn.setCell (F := fun i => i = w.heap.size + 1) w9 ⟨w.heap.size + 1, 2, none⟩ v9 rfl
            rw [t9.cell (q := ⟨w3.heap.size, 3, none⟩) b6.lt (by show ¬ w3.heap.size = _; omega), b6.cell 3]
            rfl
        have HI := HII
        clear hr hb3 ho xb own4 nw KK er
        go_wp2_with (refine wpList_append_lies _ (by rfl) (.tmp 144) (.tmp 147) 32 (by rfl) (w.heap.size + 2) 34 i34 _ 3 56 Try.underlying32 HI.out.1 HI.out.2.1 HI.out.2.2.1 HI.out.2.2.2 (by rfl) (by decide) (.slice av xs.length cv) xs.length (fl ys) (by rfl) HO4.out ⟨w3.heap.size + 1, 0, none⟩ 1 1 [.bool y.l, .slice a1 n1 q1, .slice a2 n2 q2] (by rfl) (by rfl) HNW.out (by simp [Value.oneCell']) (by decide) (by unfold maxLen; omega) (by omega) (by simp; omega) _ (by rfl) ?_; intro g9 cap9 w9 own9 gr9 at9 lt9; obtain ⟨q9, z9⟩ := HB9.out w9 gr9; obtain ⟨c90, c91, c92, c9f⟩ := q9.cells; have f92 := c9f 2; have z3 := z9 (.slice (some ⟨g9, 0, none⟩) (xs.length + 1) cap9); have HL9 : Hid (w9.ownsRow (w.heap.size + 2) 34 3 (.slice (some ⟨g9, 0, none⟩) (xs.length + 1) cap9) (xs.length + 1) (fl ys ++ [.bool y.l, .slice a1 n1 q1, .slice a2 n2 q2]) ∧ ((w3.alloc (.cells #[.bool y.l, .slice a1 n1 q1, .slice a2 n2 q2, .int .i64 (z : Nat), .int .i64 0, .int .i64 0] 75)).alloc (.cells #[.bool y.l, .slice a1 n1 q1, .slice a2 n2 q2] 34)).grownBy w9 (Value.slice av xs.length cv).ownBlock ∧ ((Value.slice av xs.length cv).ownBlock = some g9 ∨ g9 = ((w3.alloc (.cells #[.bool y.l, .slice a1 n1 q1, .slice a2 n2 q2, .int .i64 (z : Nat), .int .i64 0, .int .i64 0] 75)).alloc (.cells #[.bool y.l, .slice a1 n1 q1, .slice a2 n2 q2] 34)).heap.size)) := ⟨own9, gr9, at9⟩; clear own9 gr9 at9 lt9 c9f q9 z9)
        have hN := HRR.out.next HZ.out.1 HZ.out.2.1 HL9.out.1 HL9.out.2.1 (fun g hg => by
          have e : g9 = g := Option.some.inj hg
          subst e
          rcases HL9.out.2.2 with q | q
          · exact Or.inl q
          · right; rw [q]; simp)
        have HN : Hid (∃ sf' tf', Rg w (w9.setCell ⟨w.heap.size + 1, 2, none⟩ (.slice (some ⟨g9, 0, none⟩) (xs.length + 1) cap9)) (.slice (some ⟨g9, 0, none⟩) (xs.length + 1) cap9) (xs ++ [y]) (ys ++ [(y.l, .slice a1 n1 q1, .slice a2 n2 q2)]) sf' tf') := hN
        clear hN
        go_wp2_with fail
        go_roundg ((p + 1 + m) - z)
        case measure => omega
        case rel =>
          obtain ⟨sf', tf', hN⟩ := HN.out
          exact ⟨z, f', _, xs ++ [y], _, sf', tf', by simp; omega, hz.2, rfl, by omega, rfl, HX.out, hN⟩
    · have i1' : ¬ (at_ : Int) < (p : Int) + 1 + m := by omega
      have hx : rdL (rd s d) f at_ ((p + 1 + m)) xs = .ok (.mk true [] xs) ((p + 1 + m)) := by
        cases f with
        | zero => rw [rdL]
        | succ f => rw [rdL, if_neg hin]
      have HX : Hid (rd s (d + 1) p e = .ok (.mk true [] xs) ((p + 1 + m))) := HR.out.trans (HRL.out.trans hx)
      have hb6 := HRR.out.res
      have x0 := hb6.cell 0
      have x1 := hb6.cell 1
      have x2 := hb6.cell 2
      have x3 := hb6.cell 3
      have x4 := hb6.cell 4
      have x5 := hb6.cell 5
      simp only [List.getElem?_toArray, List.getElem?_cons_zero, List.getElem?_cons_succ] at x0 x1 x2 x3 x4 x5
      have f0 := hb6.frozen 0
      have f1 := hb6.frozen 1
      have f2 := hb6.frozen 2
      have f3 := hb6.frozen 3
      have f4 := hb6.frozen 4
      have f5 := hb6.frozen 5
      obtain ⟨xc0, xc1, xc2, -⟩ := HRR.out.gl.box.cells
      clear hx hb6
      go_wp2_with fail
      refine bodyPost_ret (res75 rfl _ rfl HRR.out.res.set) rfl ?_
      have t6 := set6_turn wr w.heap.size (.bool true) (.slice none 0 0) (.slice av xs.length cv) (.int .i64 ((p : Int) + 1 + m)) (.int .i64 0) (.int .i64 0)
      have hs := HRR.out.gl.ls
      unfold RPost
      rw [HX.out]
      refine ⟨HRR.out.below.trans (t6.below (fun i q => by omega) (by omega)), _, _, by rw [show (((p + 1 + m : Nat)) : Int) = (p : Int) + 1 + m by omega]; rfl, ?_⟩
      have hG := HRR.out.gl.done (lo := w.heap.size + 1) (b := []) (sg_of_own (b := []) ⟨rfl, Or.inl ⟨rfl, rfl⟩⟩ (by simp) (by simp)) (by omega) (by have := HAZ.out.2; omega)
      exact (hG.same (fun k k1 k2 => t6.block k k2 (by omega))).wide (by omega) (by rw [set6_size]; exact Nat.le_refl _)

set_option maxRecDepth 100000 in
set_option maxHeartbeats 3200000 in
theorem rread192_l (d : Nat) (KI : ∀ (w : World) (a : Option Addr) (b off n c : Nat) (s : List Nat) (p e : Nat), Rp w a b off n c s e d → p ≤ e → Calls Try.prog 34 #[.slice a n c, .int .i64 p, .int .i64 e, .int .i64 ((80 - d : Nat) : Int)] w (RPost s d p e w))
    (w : World) (a : Option Addr) (b off n c : Nat) (s : List Nat) (p e m : Nat) (h : Rp w a b off n c s e (d + 1)) (hp : p < e) (hg : gd s p = 192 + m) (hm : m < 64) (h1 : ¬ m < 56) (h2 : ¬ e - (p + 1) < m - 55) (h3 : gd s (p + 1) ≠ 0) (h4 : ¬ 1048576 < num (cut s (p + 1) (p + 1 + (m - 55)))) (h5 : ¬ num (cut s (p + 1) (p + 1 + (m - 55))) < 56) (h6 : ¬ e - (p + 1 + (m - 55)) < num (cut s (p + 1) (p + 1 + (m - 55)))) :
    Calls Try.prog 34 #[.slice a n c, .int .i64 p, .int .i64 e, .int .i64 ((80 - (d + 1) : Nat) : Int)] w (RPost s (d + 1) p e w) := by
  have HR : Hid (rd s (d + 1) p e = rdL (rd s d) (p + 1 + (m - 55) + num (cut s (p + 1) (p + 1 + (m - 55))) - (p + 1 + (m - 55))) (p + 1 + (m - 55)) (p + 1 + (m - 55) + num (cut s (p + 1) (p + 1 + (m - 55)))) []) := by
    show _ = _
    rw [rd_eq, if_neg (by omega), if_neg (by omega), if_neg (by omega), if_neg (by omega), show gd s p - 192 = m by omega]
    rw [rdHead, if_neg h1, if_neg h2, if_neg h3, if_neg h4, if_neg h5, if_neg h6]
    rfl
  have hen := h.en
  obtain ⟨rfl, c0, hx⟩ := h.vp.cell (i := p) (by omega)
  have hbw : b < w.heap.size := World.block_lt_of_cell? _ _ c0
  have hn : n ≤ 1048576 := by have := h.vp.len; have := h.vp.small; omega
  rw [hg, show ((192 + m : Nat) : Int) = 192 + (m : Int) by omega] at c0
  replace c0 := ((below_alloc w (.cells #[.bool false, .slice none 0 0, .slice none 0 0, .int .i64 0, .int .i64 0, .int .i64 0] 75)).cell (p := ⟨b, off + p, none⟩) hbw).trans c0
  have i0 : ¬ (p : Int) = e := by omega
  have i0b : ((p : Int) == (e : Int)) = false := by simpa using i0
  have i1 : ¬ 192 + (m : Int) < 128 := by omega
  have i2 : (p : Int) < n := by omega
  have i3 : (192 : Int) ≤ 192 + (m : Int) := by omega
  have i4 : 192 + (m : Int) - 192 = m := by omega
  have i4b : 192 + (m : Int) - 128 = m + 64 := by omega
  obtain ⟨dd, edd⟩ : ∃ dd, dd = 80 - (d + 1) := ⟨_, rfl⟩
  have hdd : dd + 1 ≤ 80 := by have := h.dep; omega
  rw [← edd]
  have i5 : ¬ (80 : Int) < (dd : Int) + 1 := by omega
  have ed2 : 80 - d = dd + 1 := by have := h.dep; omega
  rw [ed2] at KI
  clear edd
  obtain ⟨k, rfl⟩ : ∃ k, m = k + 55 := ⟨m - 55, by omega⟩
  rw [show k + 55 - 55 = k by omega] at *
  have ek : ((k + 55 : Nat) : Int) = (k : Int) + 55 := by omega
  rw [ek] at c0 i1 i3 i4
  have i6 : ¬ (k : Int) + 55 < 56 := by omega
  have i6b : (56 : Int) ≤ (k : Int) + 55 := by omega
  have i7 : (k : Int) + 55 - 55 = k := by omega
  clear ek
  obtain ⟨-, c1, hx1⟩ := h.vp.cell (i := p + 1) (by omega)
  replace c1 := ((below_alloc w (.cells #[.bool false, .slice none 0 0, .slice none 0 0, .int .i64 0, .int .i64 0, .int .i64 0] 75)).cell (p := ⟨b, off + (p + 1), none⟩) hbw).trans c1
  rw [show off + (p + 1) = off + p + 1 by omega] at c1
  have c1' := c1
  rw [show off + p + 1 = off + (p + 1) by omega] at c1'
  have hz : ¬ ((gd s (p + 1) : Nat) : Int) = 0 := by omega
  have hzb : (((gd s (p + 1) : Nat) : Int) == 0) = false := by simpa using hz
  have i8 : ¬ (e : Int) - ((p : Int) + 1) < k := by omega
  have i9 : (p : Int) + 1 < n := by omega
  have sb := slice_both (some ⟨b, off, none⟩) n c (p + 1) (p + 1 + k) (by omega) (by have := h.vp.cap; omega)
  have hc := (h.vp.keep (below_alloc w (.cells #[.bool false, .slice none 0 0, .slice none 0 0, .int .i64 0, .int .i64 0, .int .i64 0] 75))).cut (l := p + 1) (z := p + 1 + k) (by omega) (by omega)
  have hcl : (cut s (p + 1) (p + 1 + k)).length = k := by rw [cut_len (by have := h.vp.len; omega)]; omega
  have KN := rnum_any _ _ _ _ (c - (p + 1)) _ hc
  rw [hcl] at KN
  rw [show p + 1 + k - (p + 1) = k by omega] at sb
  generalize behind (some ⟨b, off, none⟩) c (p + 1) = bh at sb KN
  rw [show (((p + 1 : Nat)) : Int) = (p : Int) + 1 by omega, show (((p + 1 + k : Nat)) : Int) = (p : Int) + 1 + k by omega] at sb
  have es : sat (cut s (p + 1) (p + 1 + k)) = num (cut s (p + 1) (p + 1 + k)) := by unfold sat; omega
  rw [es] at KN
  generalize num (cut s (p + 1) (p + 1 + k)) = N at *
  have i10 : ¬ (1048576 : Int) < (N : Int) := by omega
  have i11 : ¬ (N : Int) < 56 := by omega
  have i12 : ¬ (e : Int) - ((p : Int) + 1 + k) < N := by omega
  have HAZ : Hid (p + 1 + k ≤ p + 1 + k + N ∧ p + 1 + k + N ≤ 1048576) := ⟨by omega, by omega⟩
  have hz63 : p + 1 + k + N ≤ 1048576 := HAZ.out.2
  have HRO : Hid (∀ at_ y z, at_ ≤ p + 1 + k + N → rd s d at_ (p + 1 + k + N) = .ok y z → at_ < z ∧ z ≤ p + 1 + k + N) := fun at_ y z h1 h2 => by
    have := rd_ok h.vp.ok d at_ (p + 1 + k + N) y z (by have := h.vp.len; omega) h1 h2
    exact ⟨this.1, this.2.1⟩
  have HKI : Hid (∀ (wr : World) (at_ : Nat), Below w.heap.size w wr → at_ ≤ p + 1 + k + N → Calls Try.prog 34 #[.slice (some ⟨b, off, none⟩) n c, .int .i64 at_, .int .i64 ((p : Int) + 1 + k + N), .int .i64 ((dd : Int) + 1)] wr (RPost s d at_ (p + 1 + k + N) wr)) := fun wr at_ kb hat => by
    have := KI wr (some ⟨b, off, none⟩) b off n c s at_ (p + 1 + k + N) ⟨h.vp.keep kb, h.all, by omega, by have := h.dep; omega⟩ hat
    rwa [show ((dd + 1 : Nat) : Int) = (dd : Int) + 1 by omega, show (((p + 1 + k + N : Nat)) : Int) = (p : Int) + 1 + k + N by omega] at this
  obtain ⟨i34, hi0, hz0, hz1, hz2⟩ := info_parts infoItR
  have HII : Hid (Try.prog.info? 34 = some i34 ∧ i34.zero = some (.agg #[.bool false, .slice none 0 0, .slice none 0 0]) ∧ i34.size = 3 ∧ i34.bytes = 56) := ⟨hi0, hz0, hz1, hz2⟩
  clear KI h hg hi0 hz0 hz1 hz2 ed2 hc hcl es
  generalize gd s (p + 1) = y0 at *
  go_enter Try.func34, Try.ntmps34
  go_wp2_with (go_at_call 49; refine KN.mono ?_; rintro r w' ⟨rfl, rfl⟩)
  go_loopg [12] ((p + 1 + k + N) - (p + 1 + k)) (fun gg u wr => ∃ (at_ f : Nat) (v : Value) (xs : List It) (ys : List (Bool × Value × Value)) (sf tf : Nat → Nat), (p + 1 + k) + xs.length ≤ at_ ∧ at_ ≤ (p + 1 + k + N) ∧ gg = (p + 1 + k + N) - at_ ∧ (p + 1 + k + N) - at_ ≤ f ∧ u = .int .i64 at_ ∧ rdL (rd s d) ((p + 1 + k + N) - (p + 1 + k)) (p + 1 + k) (p + 1 + k + N) [] = rdL (rd s d) f at_ (p + 1 + k + N) xs ∧ Rg w wr v xs ys sf tf)
  case atStart => exact ⟨(p + 1 + k), (p + 1 + k + N) - (p + 1 + k), _, [], [], _, _, by simp, HAZ.out.1, rfl, Nat.le_refl _, by first | rfl | go_num, rfl, Rg.start w⟩
  case round =>
    obtain ⟨at_, f, v, xs, ys, sf, tf, hxa, haz, rfl, hf, rfl, hrl, hR⟩ := hrel
    have HRL : Hid (rdL (rd s d) ((p + 1 + k + N) - (p + 1 + k)) (p + 1 + k) (p + 1 + k + N) [] = rdL (rd s d) f at_ (p + 1 + k + N) xs) := hrl
    have HRR : Hid (Rg w wr v xs ys sf tf) := hR
    obtain ⟨av, cv, ev⟩ := own_slice hR.gl.own
    subst ev
    clear hrl hR
    by_cases hin : at_ < (p + 1 + k + N)
    · have i1' : (at_ : Int) < (p : Int) + 1 + k + N := by omega
      obtain ⟨f', rfl⟩ : ∃ f', f = f' + 1 := ⟨f - 1, by omega⟩
      have KK := HKI.out wr at_ HRR.out.below haz
      have er : ∀ r w', RPost s d at_ ((p + 1 + k + N)) wr r w' → Below wr.heap.size wr w' ∧ match rd s d at_ ((p + 1 + k + N)) with
          | .ok x z => ∃ vb vi, r = .returned (.agg #[.bool x.l, vb, vi, .int .i64 (z : Nat), .int .i64 0, .int .i64 0]) ∧ Og 34 [] w' wr.heap.size w'.heap.size x vb vi
          | .bad q c => r = .returned (rdBad q c) := fun r w' h => h
      have HRS := HRL.out
      rw [rdL, if_pos hin] at HRS
      cases hrd : rd s d at_ ((p + 1 + k + N)) with
      | bad q cd =>
        rw [hrd] at er HRS
        have HX : Hid (rd s (d + 1) p e = .bad q cd) := HR.out.trans HRS
        have hcd := rd_bad d at_ _ q cd hrd
        have icd : ¬ (cd : Int) = 0 := by omega
        have icdb : ((cd : Int) == 0) = false := by simpa using icd
        clear hrd HRS
        go_wp2_with fail
        refine KK.mono ?_
        intro r w3 hr
        obtain ⟨hb3, rfl⟩ := er r w3 hr
        have hb6 : B6 (w3.alloc (.cells #[.bool false, .slice none 0 0, .slice none 0 0, .int .i64 0, .int .i64 (q : Nat), .int .i64 (cd : Nat)] 75)) w.heap.size (.bool false) (.slice none 0 0) (.slice none 0 0) (.int .i64 0) (.int .i64 0) (.int .i64 0) := HRR.out.res.keep ((ch hb3 (below_alloc _ _)).block _ HRR.out.res.lt)
        have HZ : Hid (Below wr.heap.size wr w3 ∧ B6 (w3.alloc (.cells #[.bool false, .slice none 0 0, .slice none 0 0, .int .i64 0, .int .i64 (q : Nat), .int .i64 (cd : Nat)] 75)) w.heap.size (.bool false) (.slice none 0 0) (.slice none 0 0) (.int .i64 0) (.int .i64 0) (.int .i64 0)) := ⟨hb3, hb6⟩
        have x0 := hb6.cell 0
        have x1 := hb6.cell 1
        have x2 := hb6.cell 2
        have x3 := hb6.cell 3
        have x4 := hb6.cell 4
        have x5 := hb6.cell 5
        simp only [List.getElem?_toArray, List.getElem?_cons_zero, List.getElem?_cons_succ] at x0 x1 x2 x3 x4 x5
        have f0 := hb6.frozen 0
        have f1 := hb6.frozen 1
        have f2 := hb6.frozen 2
        have f3 := hb6.frozen 3
        have f4 := hb6.frozen 4
        have f5 := hb6.frozen 5
        clear hr hb3 hb6 KK er
        go_wp2_with fail
        refine bodyPost_ret (res75 rfl _ rfl HZ.out.2.set) rfl ?_
        have t6 := set6_turn (w3.alloc (.cells #[.bool false, .slice none 0 0, .slice none 0 0, .int .i64 0, .int .i64 (q : Nat), .int .i64 (cd : Nat)] 75)) w.heap.size (.bool false) (.slice none 0 0) (.slice none 0 0) (.int .i64 0) (.int .i64 (q : Nat)) (.int .i64 (cd : Nat))
        unfold RPost
        rw [HX.out]
        exact ⟨(ch HRR.out.below (ch HZ.out.1 (below_alloc _ _))).trans (t6.below (fun i q => by omega) (by have := HRR.out.below.size; have := HZ.out.1.size; simp; omega)), rfl⟩
      | ok y z =>
        rw [hrd] at er HRS
        dsimp only at HRS
        have HX : Hid (rdL (rd s d) ((p + 1 + k + N) - (p + 1 + k)) (p + 1 + k) (p + 1 + k + N) [] = rdL (rd s d) f' z (p + 1 + k + N) (xs ++ [y])) := HRS
        have hz := HRO.out at_ y z haz hrd
        clear hrd HRS
        go_wp2_with fail
        refine KK.mono ?_
        intro r w3 hr
        obtain ⟨hb3, vb, vi, rfl, ho⟩ := er r w3 hr
        obtain ⟨a1, n1, q1, a2, n2, q2, rfl, rfl⟩ := ho.lies.form
        have xb : Bx (w3.alloc (.cells #[.bool y.l, .slice a1 n1 q1, .slice a2 n2 q2, .int .i64 (z : Nat), .int .i64 0, .int .i64 0] 75)) (w.heap.size + 1) 34 (.bool true) (.slice none 0 0) (.slice av xs.length cv) := HRR.out.gl.box.keep ((ch hb3 (below_alloc _ _)).block _ HRR.out.gl.box.lt)
        obtain ⟨xc0, xc1, xc2, -⟩ := xb.cells
        have HZ : Hid (Below wr.heap.size wr w3 ∧ Og 34 [] w3 wr.heap.size w3.heap.size y (.slice a1 n1 q1) (.slice a2 n2 q2) ∧ Bx (w3.alloc (.cells #[.bool y.l, .slice a1 n1 q1, .slice a2 n2 q2, .int .i64 (z : Nat), .int .i64 0, .int .i64 0] 75)) (w.heap.size + 1) 34 (.bool true) (.slice none 0 0) (.slice av xs.length cv)) := ⟨hb3, ho, xb⟩
        have own4 : ((w3.alloc (.cells #[.bool y.l, .slice a1 n1 q1, .slice a2 n2 q2, .int .i64 (z : Nat), .int .i64 0, .int .i64 0] 75)).alloc (.cells #[.bool y.l, .slice a1 n1 q1, .slice a2 n2 q2] 34)).ownsRow (w.heap.size + 2) 34 3 (.slice av xs.length cv) xs.length (fl ys) :=
          own_same HRR.out.gl.own (fun g hg => (ch (ch hb3 (below_alloc _ _)) (below_alloc _ _)).block g (HRR.out.gl.own.lt g hg).2)
        have nw := World.news_of_block (w := (w3.alloc (.cells #[.bool y.l, .slice a1 n1 q1, .slice a2 n2 q2, .int .i64 (z : Nat), .int .i64 0, .int .i64 0] 75)).alloc (.cells #[.bool y.l, .slice a1 n1 q1, .slice a2 n2 q2] 34)) (B := w3.heap.size + 1) (cs := #[.bool y.l, .slice a1 n1 q1, .slice a2 n2 q2]) (t := 34) (fr := (0, 0)) (by have := heap_alloc_new (w3.alloc (.cells #[.bool y.l, .slice a1 n1 q1, .slice a2 n2 q2, .int .i64 (z : Nat), .int .i64 0, .int .i64 0] 75)) (.cells #[.bool y.l, .slice a1 n1 q1, .slice a2 n2 q2] 34); rw [World.size_alloc] at this; exact this)
        have HO4 : Hid (((w3.alloc (.cells #[.bool y.l, .slice a1 n1 q1, .slice a2 n2 q2, .int .i64 (z : Nat), .int .i64 0, .int .i64 0] 75)).alloc (.cells #[.bool y.l, .slice a1 n1 q1, .slice a2 n2 q2] 34)).ownsRow (w.heap.size + 2) 34 3 (.slice av xs.length cv) xs.length (fl ys)) := own4
        have HNW : Hid (∀ (j : Nat) (u : Value), #[Value.bool y.l, .slice a1 n1 q1, .slice a2 n2 q2].toList[j]? = some u → ((w3.alloc (.cells #[.bool y.l, .slice a1 n1 q1, .slice a2 n2 q2, .int .i64 (z : Nat), .int .i64 0, .int .i64 0] 75)).alloc (.cells #[.bool y.l, .slice a1 n1 q1, .slice a2 n2 q2] 34)).cell? ((⟨w3.heap.size + 1, 0, none⟩ : Addr).add j) = some u) := nw
        have hsz : w.heap.size + 2 ≤ w3.heap.size := by have := HRR.out.gl.ls; have := hb3.size; omega
        have hxl : xs.length + 1 ≤ 1048576 := by have := HAZ.out.2; omega
        have HB9 : Hid (∀ w9, ((w3.alloc (.cells #[.bool y.l, .slice a1 n1 q1, .slice a2 n2 q2, .int .i64 (z : Nat), .int .i64 0, .int .i64 0] 75)).alloc (.cells #[.bool y.l, .slice a1 n1 q1, .slice a2 n2 q2] 34)).grownBy w9 (Value.slice av xs.length cv).ownBlock → Bx w9 (w.heap.size + 1) 34 (.bool true) (.slice none 0 0) (.slice av xs.length cv) ∧ ∀ v9, (w9.setCell ⟨w.heap.size + 1, 2, none⟩ v9).cell? ⟨w3.heap.size, 3, none⟩ = some (.int .i64 (z : Nat))) := fun w9 gr => by
          refine ⟨HZ.out.2.2.keep ?_, fun v9 => ?_⟩
          · rw [gr.block _ (by simp; omega) (fun e2 => by have := (HRR.out.gl.own.lt _ e2.symm).1; omega)]
            exact heap_alloc_old _ _ (by simp; omega)
          · have b6 : B6 w9 w3.heap.size (.bool y.l) (.slice a1 n1 q1) (.slice a2 n2 q2) (.int .i64 (z : Nat)) (.int .i64 0) (.int .i64 0) := by
              show _ = _
              rw [gr.block _ (by simp; omega) (fun e2 => by have := (HRR.out.gl.own.lt _ e2.symm).2; have := HZ.out.1.size; omega), heap_alloc_old _ _ (by simp)]
              exact heap_alloc_new _ _
            have t9 := Turn.setCell (F := fun i => i = w.heap.size + 1) w9 ⟨w.heap.size + 1, 2, none⟩ v9 rfl
            rw [t9.cell (q := ⟨w3.heap.size, 3, none⟩) b6.lt (by show ¬ w3.heap.size = _; omega), b6.cell 3]
            rfl
        have HI := HII
        clear hr hb3 ho xb own4 nw KK er
        go_wp2_with (refine wpList_append_lies _ (by rfl) (.tmp 144) (.tmp 147) 32 (by rfl) (w.heap.size + 2) 34 i34 _ 3 56 Try.underlying32 HI.out.1 HI.out.2.1 HI.out.2.2.1 HI.out.2.2.2 (by rfl) (by decide) (.slice av xs.length cv) xs.length (fl ys) (by rfl) HO4.out ⟨w3.heap.size + 1, 0, none⟩ 1 1 [.bool y.l, .slice a1 n1 q1, .slice a2 n2 q2] (by rfl) (by rfl) HNW.out (by simp [Value.oneCell']) (by decide) (by unfold maxLen; omega) (by omega) (by simp; omega) _ (by rfl) ?_; intro g9 cap9 w9 own9 gr9 at9 lt9; obtain ⟨q9, z9⟩ := HB9.out w9 gr9; obtain ⟨c90, c91, c92, c9f⟩ := q9.cells; have f92 := c9f 2; have z3 := z9 (.slice (some ⟨g9, 0, none⟩) (xs.length + 1) cap9); have HL9 : Hid (w9.ownsRow (w.heap.size + 2) 34 3 (.slice (some ⟨g9, 0, none⟩) (xs.length + 1) cap9) (xs.length + 1) (fl ys ++ [.bool y.l, .slice a1 n1 q1, .slice a2 n2 q2]) ∧ ((w3.alloc (.cells #[.bool y.l, .slice a1 n1 q1, .slice a2 n2 q2, .int .i64 (z : Nat), .int .i64 0, .int .i64 0] 75)).alloc (.cells #[.bool y.l, .slice a1 n1 q1, .slice a2 n2 q2] 34)).grownBy w9 (Value.slice av xs.length cv).ownBlock ∧ ((Value.slice av xs.length cv).ownBlock = some g9 ∨ g9 = ((w3.alloc (.cells #[.bool y.l, .slice a1 n1 q1, .slice a2 n2 q2, .int .i64 (z : Nat), .int .i64 0, .int .i64 0] 75)).alloc (.cells #[.bool y.l, .slice a1 n1 q1, .slice a2 n2 q2] 34)).heap.size)) := ⟨own9, gr9, at9⟩; clear own9 gr9 at9 lt9 c9f q9 z9)
        have hN := HRR.out.next HZ.out.1 HZ.out.2.1 HL9.out.1 HL9.out.2.1 (fun g hg => by
          have e : g9 = g := Option.some.inj hg
          subst e
          rcases HL9.out.2.2 with q | q
          · exact Or.inl q
          · right; rw [q]; simp)
        have HN : Hid (∃ sf' tf', Rg w (w9.setCell ⟨w.heap.size + 1, 2, none⟩ (.slice (some ⟨g9, 0, none⟩) (xs.length + 1) cap9)) (.slice (some ⟨g9, 0, none⟩) (xs.length + 1) cap9) (xs ++ [y]) (ys ++ [(y.l, .slice a1 n1 q1, .slice a2 n2 q2)]) sf' tf') := hN
        clear hN
        go_wp2_with fail
        go_roundg ((p + 1 + k + N) - z)
        case measure => omega
        case rel =>
          obtain ⟨sf', tf', hN⟩ := HN.out
          exact ⟨z, f', _, xs ++ [y], _, sf', tf', by simp; omega, hz.2, rfl, by omega, rfl, HX.out, hN⟩
    · have i1' : ¬ (at_ : Int) < (p : Int) + 1 + k + N := by omega
      have hx : rdL (rd s d) f at_ ((p + 1 + k + N)) xs = .ok (.mk true [] xs) ((p + 1 + k + N)) := by
        cases f with
        | zero => rw [rdL]
        | succ f => rw [rdL, if_neg hin]
      have HX : Hid (rd s (d + 1) p e = .ok (.mk true [] xs) ((p + 1 + k + N))) := HR.out.trans (HRL.out.trans hx)
      have hb6 := HRR.out.res
      have x0 := hb6.cell 0
      have x1 := hb6.cell 1
      have x2 := hb6.cell 2
      have x3 := hb6.cell 3
      have x4 := hb6.cell 4
      have x5 := hb6.cell 5
      simp only [List.getElem?_toArray, List.getElem?_cons_zero, List.getElem?_cons_succ] at x0 x1 x2 x3 x4 x5
      have f0 := hb6.frozen 0
      have f1 := hb6.frozen 1
      have f2 := hb6.frozen 2
      have f3 := hb6.frozen 3
      have f4 := hb6.frozen 4
      have f5 := hb6.frozen 5
      obtain ⟨xc0, xc1, xc2, -⟩ := HRR.out.gl.box.cells
      clear hx hb6
      go_wp2_with fail
      refine bodyPost_ret (res75 rfl _ rfl HRR.out.res.set) rfl ?_
      have t6 := set6_turn wr w.heap.size (.bool true) (.slice none 0 0) (.slice av xs.length cv) (.int .i64 ((p : Int) + 1 + k + N)) (.int .i64 0) (.int .i64 0)
      have hs := HRR.out.gl.ls
      unfold RPost
      rw [HX.out]
      refine ⟨HRR.out.below.trans (t6.below (fun i q => by omega) (by omega)), _, _, by rw [show (((p + 1 + k + N : Nat)) : Int) = (p : Int) + 1 + k + N by omega]; rfl, ?_⟩
      have hG := HRR.out.gl.done (lo := w.heap.size + 1) (b := []) (sg_of_own (b := []) ⟨rfl, Or.inl ⟨rfl, rfl⟩⟩ (by simp) (by simp)) (by omega) (by have := HAZ.out.2; omega)
      exact (hG.same (fun k k1 k2 => t6.block k k2 (by omega))).wide (by omega) (by rw [set6_size]; exact Nat.le_refl _)
end Go.Proofs.Ytlpmcdnhnhgmpaa
