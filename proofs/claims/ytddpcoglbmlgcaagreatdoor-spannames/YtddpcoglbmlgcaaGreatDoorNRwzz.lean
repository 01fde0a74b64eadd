import Derived.Test.YtddpcoglbmlgcaaGreatDoorNRlzz
/-
  readList, walked; the two together.
-/
namespace Go.Proofs.YtddpcoglbmlgcaaGreatDoor
open Go.RowKit
set_option maxRecDepth 100000 in
set_option maxHeartbeats 3200000 in
theorem readList_zero (w : World) (a : Option Addr) (b off e c p : Nat) (s : List Nat) (_hv : Vp w a b off e c s) (hp : p < e) (hg : ¬ gd s p < 192) :
    Calls Tryz.prog 122 #[.slice a e c, .int .i64 p, .int .i64 ((80 - 0 : Nat) : Int)] w (ItemPost s 0 p e w) := by
  have HR : Hid (rd s 0 p e = .bad p 53) := by
    show _ = _
    rw [rd_eq, if_neg (by omega), if_neg (by omega), if_neg hg, if_pos rfl]
  have KG := fun w => giveUp_any w p 53
  have e80 : ((80 - 0 : Nat) : Int) = 80 := by decide
  rw [e80]
  clear _hv hg
  go_enter Tryz.func122, Tryz.ntmps122
  go_wp2_with (go_at_call 93; refine (KG _).mono ?_; rintro e w' ⟨rfl, rfl⟩)
  exact ⟨rfl, by unfold ItemPost; rw [HR.out]; exact ⟨below_alloc _ _, rfl⟩⟩
set_option maxRecDepth 100000 in
set_option maxHeartbeats 3200000 in
theorem readList_succ (d : Nat) (hd : d + 1 ≤ 80) (KI : ∀ (w : World) (a : Option Addr) (b off e c p : Nat) (s : List Nat), Vp w a b off e c s → p ≤ e →
      Calls Tryz.prog 92 #[.slice a e c, .int .i64 p, .int .i64 ((80 - d : Nat) : Int)] w (ItemPost s d p e w))
    (w : World) (a : Option Addr) (b off e c p : Nat) (s : List Nat) (hv : Vp w a b off e c s) (hp : p < e) (hg : ¬ gd s p < 192) :
    Calls Tryz.prog 122 #[.slice a e c, .int .i64 p, .int .i64 ((80 - (d + 1) : Nat) : Int)] w (ItemPost s (d + 1) p e w) := by
  have he : e ≤ 1048576 := by have := hv.len; have := hv.small; omega
  obtain ⟨dd, edd⟩ : ∃ dd, dd = 80 - (d + 1) := ⟨_, rfl⟩
  have hdd : dd < 80 := by omega
  have ed2 : 80 - d = dd + 1 := by omega
  rw [← edd]
  rw [ed2] at KI
  have i0 : ¬ (80 : Int) ≤ (dd : Int) := by omega
  have hb256 := gd_lt hv.ok p
  obtain ⟨w1, ew1⟩ : ∃ w1, w1 = w.alloc (.cells #[.bool false, .slice none 0 0, .slice none 0 0] 134) := ⟨_, rfl⟩
  have b1 : Below w.heap.size w w1 := by rw [ew1]; exact below_alloc _ _
  have hv1 := hv.keep b1
  have K := readHead_any w1 _ _ _ _ _ p 192 (gd s p - 192) s hv1 hp (by omega) (by omega)
  have HB1 : Hid (Below w.heap.size w w1 ∧ w1 = w.alloc (.cells #[.bool false, .slice none 0 0, .slice none 0 0] 134)) := ⟨b1, ew1⟩
  cases hh : rdHead s p e (gd s p - 192) with
  | bad q =>
    have HR : Hid (rd s (d + 1) p e = .bad p q) := by
      show _ = _
      rw [rd_eq, if_neg (by omega), if_neg (by omega), if_neg hg, if_neg (by omega), hh]
    rw [hh] at K
    clear KI hv hv1 edd ed2 hd b1 ew1 hh
    go_enter Tryz.func122, Tryz.ntmps122
    go_wp2_with fail
    rw [← HB1.out.2]
    refine K.mono ?_
    rintro r w2 ⟨rfl, rfl⟩
    go_wp2_with fail
    exact ⟨rfl, by unfold ItemPost; rw [HR.out]; exact ⟨HB1.out.1, rfl⟩⟩
  | ok A Z =>
    obtain ⟨k1, k2, k3, k4, -⟩ := rdHead_ok (base := 192) hv.ok hv.len hp (by omega) (by omega) hh
    have HR : Hid (rd s (d + 1) p e = rdL (rd s d) (Z - A) A Z []) := by
      show _ = _
      rw [rd_eq, if_neg (by omega), if_neg (by omega), if_neg hg, if_neg (by omega), hh]
      rfl
    rw [hh] at K
    have hcap := hv.cap
    have j1 := slice_upto a e c Z (by omega)
    have hvZ := hv.upto k3
    have HV : Hid (Vp w a b off Z c s) := hvZ
    have HRO : Hid (∀ at_ y z, at_ ≤ Z → rd s d at_ Z = .ok y z → at_ < z ∧ z ≤ Z) := fun at_ y z h1 h2 => by
      have := rd_ok hv.ok d at_ Z y z (by have := hv.len; omega) h1 h2
      exact ⟨this.1, this.2.1⟩
    obtain ⟨i25, hi0, hz0, hz1, hz2⟩ := info_parts infoIt
    have HI : Hid (Tryz.prog.info? 134 = some i25 ∧ i25.zero = some (.agg #[.bool false, .slice none 0 0, .slice none 0 0]) ∧ i25.size = 3 ∧ i25.bytes = 56) := ⟨hi0, hz0, hz1, hz2⟩
    have HKI : Hid (∀ (w : World) (a : Option Addr) (b off e c p : Nat) (s : List Nat), Vp w a b off e c s → p ≤ e → Calls Tryz.prog 92 #[.slice a e c, .int .i64 p, .int .i64 ((dd : Int) + 1)] w (ItemPost s d p e w)) := by
      intro w a b off e c p s h1 h2
      have := KI w a b off e c p s h1 h2
      rwa [show ((dd + 1 : Nat) : Int) = (dd : Int) + 1 by omega] at this
    have hsmall : Z ≤ 1048576 := by omega
    clear KI hv hv1 hvZ edd ed2 hd b1 ew1 hh hi0 hz0 hz1 hz2
    go_enter Tryz.func122, Tryz.ntmps122
    go_wp2_with fail
    rw [← HB1.out.2]
    refine K.mono ?_
    rintro r w2 ⟨rfl, rfl⟩
    have b2 : Below w2.heap.size w2 (w2.alloc (.cells #[.bool true, .slice none 0 0, .slice none 0 0] 134)) := below_alloc _ _
    have s2 : w2.heap.size = w.heap.size + 1 := by rw [HB1.out.2]; simp
    have r0 : Rl w (w2.alloc (.cells #[.bool true, .slice none 0 0, .slice none 0 0] 134)) (.slice none 0 0) [] [] (fun _ => 0) (fun _ => 0) := by
      refine Rl.start (ch HB1.out.1 b2) ?_ ?_
      · show _ = _
        rw [heap_alloc_old _ _ (by omega), HB1.out.2]
        exact heap_alloc_new _ _
      · have := heap_alloc_new w2 (.cells #[.bool true, .slice none 0 0, .slice none 0 0] 134)
        rw [s2] at this
        exact this
    have HS2 : Hid (w2.heap.size = w.heap.size + 1) := s2
    have HR0 : Hid (Rl w (w2.alloc (.cells #[.bool true, .slice none 0 0, .slice none 0 0] 134)) (.slice none 0 0) [] [] (fun _ => 0) (fun _ => 0)) := r0
    clear b2 r0 s2
    go_wp2_with fail
    rw [HS2.out]
    go_loopg [8] (Z - A) (fun gg u wr => ∃ (at_ n : Nat) (v : Value) (xs : List It) (ys : List (Bool × Value × Value)) (sf tf : Nat → Nat), A + xs.length ≤ at_ ∧ at_ ≤ Z ∧ gg = Z - at_ ∧ Z - at_ ≤ n ∧ u = .int .i64 at_ ∧ rdL (rd s d) (Z - A) A Z [] = rdL (rd s d) n at_ Z xs ∧ Rl w wr v xs ys sf tf)
    case atStart => exact ⟨A, Z - A, _, [], [], _, _, by simp, k2, rfl, Nat.le_refl _, rfl, rfl, HR0.out⟩
    case round =>
      clear HR0
      obtain ⟨at_, n, v, xs, ys, sf, tf, hxa, haz, rfl, hn, rfl, hrl, hR⟩ := hrel
      have HRL : Hid (rdL (rd s d) (Z - A) A Z [] = rdL (rd s d) n at_ Z xs) := hrl
      have HRR : Hid (Rl w wr v xs ys sf tf) := hR
      obtain ⟨av, cv, ev⟩ := own_slice hR.own
      subst ev
      obtain ⟨x0, x1, x2, xf⟩ := hR.box.cells
      have f2 := xf 2
      clear hrl hR xf
      by_cases hin : at_ < Z
      · have i1 : (at_ : Int) < (Z : Int) := by omega
        obtain ⟨n', rfl⟩ : ∃ n', n = n' + 1 := ⟨n - 1, by omega⟩
        have hbA := below_alloc wr (.cells #[.bool false, .slice none 0 0, .slice none 0 0] 134)
        have KK := HKI.out (wr.alloc (.cells #[.bool false, .slice none 0 0, .slice none 0 0] 134)) a b off Z c at_ s (HV.out.keep (ch HRR.out.below hbA)) haz
        have er : ∀ r w', ItemPost s d at_ Z (wr.alloc (.cells #[.bool false, .slice none 0 0, .slice none 0 0] 134)) r w' → Below (wr.alloc (.cells #[.bool false, .slice none 0 0, .slice none 0 0] 134)).heap.size (wr.alloc (.cells #[.bool false, .slice none 0 0, .slice none 0 0] 134)) w' ∧ match rd s d at_ Z with
            | .ok x z => ∃ vb vi, r = .returned (.tuple #[iv x.l vb vi, .int .i64 z]) ∧ Own w' (wr.alloc (.cells #[.bool false, .slice none 0 0, .slice none 0 0] 134)).heap.size w'.heap.size x vb vi
            | .bad q c => r = .panicked [flt q c] := fun r w' h => h
        have HRS := HRL.out
        rw [rdL, if_pos hin] at HRS
        clear hbA
        cases hrd : rd s d at_ Z with
        | bad q cd =>
          rw [hrd] at er HRS
          have HX : Hid (rd s (d + 1) p e = .bad q cd) := HR.out.trans HRS
          clear hrd HRS
          go_wp2_with fail
          refine KK.mono ?_
          intro r w3 hr
          obtain ⟨hb3, rfl⟩ := er r w3 hr
          have HZ : Hid (Below w.heap.size w w3) := ch (ch HRR.out.below (below_alloc wr _)) hb3
          clear hr hb3
          go_wp2_with fail
          exact ⟨rfl, by unfold ItemPost; rw [HX.out]; exact ⟨HZ.out, rfl⟩⟩
        | ok y z =>
          rw [hrd] at er HRS
          dsimp only at HRS
          have HX : Hid (rdL (rd s d) (Z - A) A Z [] = rdL (rd s d) n' z Z (xs ++ [y])) := HRS
          have hz := HRO.out at_ y z haz hrd
          clear hrd HRS
          go_wp2_with fail
          refine KK.mono ?_
          intro r w3 hr
          obtain ⟨hb3, vb, vi, rfl, ho⟩ := er r w3 hr
          obtain ⟨a1, n1, q1, a2, n2, q2, rfl, rfl⟩ := ho.lies.form
          have hz1 : wr.heap.size < (wr.alloc (.cells #[.bool false, .slice none 0 0, .slice none 0 0] 134)).heap.size := by simp
          have y0 : Bx w3 wr.heap.size 134 (.bool false) (.slice none 0 0) (.slice none 0 0) := (hb3.block _ hz1).trans (heap_alloc_new _ _)
          have xb : Bx w3 (w.heap.size + 1) 134 (.bool true) (.slice none 0 0) (.slice av xs.length cv) := (hb3.block _ (by have := HRR.out.size; omega)).trans ((heap_alloc_old _ _ (by have := HRR.out.size; omega)).trans HRR.out.box)
          obtain ⟨g0, g1, g2, gf⟩ := y0.cells
          have gf0 := gf 0
          have gf1 := gf 1
          have gf2 := gf 2
          have xs3 : Bx (set3 w3 wr.heap.size (.bool y.l) (.slice a1 n1 q1) (.slice a2 n2 q2)) (w.heap.size + 1) 134 (.bool true) (.slice none 0 0) (.slice av xs.length cv) := xb.keep ((set3_turn _ _ _ _ _).block _ xb.lt (by have := HRR.out.size; omega))
          have y3 := y0.set3 (x' := .bool y.l) (y' := .slice a1 n1 q1) (z' := .slice a2 n2 q2)
          obtain ⟨xc0, xc1, xc2, -⟩ := xs3.cells
          obtain ⟨yc0, yc1, yc2, -⟩ := y3.cells
          have HZ : Hid (Below (wr.alloc (.cells #[.bool false, .slice none 0 0, .slice none 0 0] 134)).heap.size (wr.alloc (.cells #[.bool false, .slice none 0 0, .slice none 0 0] 134)) w3 ∧ Own w3 (wr.alloc (.cells #[.bool false, .slice none 0 0, .slice none 0 0] 134)).heap.size w3.heap.size y (.slice a1 n1 q1) (.slice a2 n2 q2)) := ⟨hb3, ho⟩
          have own4 : ((set3 w3 wr.heap.size (.bool y.l) (.slice a1 n1 q1) (.slice a2 n2 q2)).alloc (.cells #[.bool y.l, .slice a1 n1 q1, .slice a2 n2 q2] 134)).ownsRow (w.heap.size + 2) 134 3 (.slice av xs.length cv) xs.length (fl ys) := by
            refine own_same HRR.out.own (fun g hg => ?_)
            have hlt := (HRR.out.own.lt g hg).2
            rw [heap_alloc_old _ _ (by have := hb3.size; simp at this; simp; omega), (set3_turn w3 wr.heap.size (.bool y.l) (.slice a1 n1 q1) (.slice a2 n2 q2)).block g (by have := hb3.size; simp at this; omega) (by omega), hb3.block g (by simp; omega)]
            exact heap_alloc_old _ _ hlt
          have nw := World.news_of_block (w := (set3 w3 wr.heap.size (.bool y.l) (.slice a1 n1 q1) (.slice a2 n2 q2)).alloc (.cells #[.bool y.l, .slice a1 n1 q1, .slice a2 n2 q2] 134)) (B := w3.heap.size) (cs := #[.bool y.l, .slice a1 n1 q1, .slice a2 n2 q2]) (t := 134) (fr := (0, 0)) (by have := heap_alloc_new (set3 w3 wr.heap.size (.bool y.l) (.slice a1 n1 q1) (.slice a2 n2 q2)) (.cells #[.bool y.l, .slice a1 n1 q1, .slice a2 n2 q2] 134); rw [set3_size] at this; exact this)
          have HO4 : Hid (((set3 w3 wr.heap.size (.bool y.l) (.slice a1 n1 q1) (.slice a2 n2 q2)).alloc (.cells #[.bool y.l, .slice a1 n1 q1, .slice a2 n2 q2] 134)).ownsRow (w.heap.size + 2) 134 3 (.slice av xs.length cv) xs.length (fl ys)) := own4
          have HNW : Hid (∀ (j : Nat) (u : Value), #[Value.bool y.l, .slice a1 n1 q1, .slice a2 n2 q2].toList[j]? = some u → ((set3 w3 wr.heap.size (.bool y.l) (.slice a1 n1 q1) (.slice a2 n2 q2)).alloc (.cells #[.bool y.l, .slice a1 n1 q1, .slice a2 n2 q2] 134)).cell? ((⟨w3.heap.size, 0, none⟩ : Addr).add j) = some u) := nw
          have hsz : w.heap.size + 2 ≤ w3.heap.size := by have := HRR.out.size; have := hb3.size; simp at this; omega
          have hxl : xs.length + 1 ≤ 1048576 := by omega
          obtain ⟨nx, enx⟩ : ∃ nx, nx = xs.length := ⟨_, rfl⟩
          have HNX : Hid (nx = xs.length) := enx
          have HB9 : Hid (∀ w9, ((set3 w3 wr.heap.size (.bool y.l) (.slice a1 n1 q1) (.slice a2 n2 q2)).alloc (.cells #[.bool y.l, .slice a1 n1 q1, .slice a2 n2 q2] 134)).grownBy w9 (Value.slice av xs.length cv).ownBlock → Bx w9 (w.heap.size + 1) 134 (.bool true) (.slice none 0 0) (.slice av xs.length cv)) := fun w9 gr => by
            refine xs3.keep ?_
            rw [gr.block _ (by simp; omega) (fun e2 => by have := (HRR.out.own.lt _ e2.symm).1; omega)]
            exact heap_alloc_old _ _ (by simp; omega)
          clear hr hb3 ho y0 xb gf hz1 x0 x1 x2 f2 own4 nw
          go_wp2_with (refine wpList_append_lies _ (by rfl) (.tmp 37) (.tmp 39) 132 (by rfl) (w.heap.size + 2) 134 i25 _ 3 56 Tryz.underlying132 HI.out.1 HI.out.2.1 HI.out.2.2.1 HI.out.2.2.2 (by rfl) (by decide) (.slice av xs.length cv) xs.length (fl ys) (by rfl) HO4.out ⟨w3.heap.size, 0, none⟩ 1 1 [.bool y.l, .slice a1 n1 q1, .slice a2 n2 q2] (by rfl) (by rfl) HNW.out (by simp [Value.oneCell']) (by decide) (by unfold maxLen; omega) (by omega) (by simp; omega) _ (by rfl) ?_; intro g9 cap9 w9 own9 gr9 at9 lt9; obtain ⟨c90, c91, c92, c9f⟩ := (HB9.out w9 gr9).cells; have f92 := c9f 2; have HL9 : Hid (w9.ownsRow (w.heap.size + 2) 134 3 (.slice (some ⟨g9, 0, none⟩) (xs.length + 1) cap9) (xs.length + 1) (fl ys ++ [.bool y.l, .slice a1 n1 q1, .slice a2 n2 q2]) ∧ ((set3 w3 wr.heap.size (.bool y.l) (.slice a1 n1 q1) (.slice a2 n2 q2)).alloc (.cells #[.bool y.l, .slice a1 n1 q1, .slice a2 n2 q2] 134)).grownBy w9 (Value.slice av xs.length cv).ownBlock ∧ ((Value.slice av xs.length cv).ownBlock = some g9 ∨ g9 = ((set3 w3 wr.heap.size (.bool y.l) (.slice a1 n1 q1) (.slice a2 n2 q2)).alloc (.cells #[.bool y.l, .slice a1 n1 q1, .slice a2 n2 q2] 134)).heap.size)) := ⟨own9, gr9, at9⟩; clear own9 gr9 at9 lt9 c9f)
          have hN := HRR.out.next HZ.out.1 HZ.out.2 HL9.out.1 HL9.out.2.1 (fun g hg => by
            have e : g9 = g := Option.some.inj hg
            subst e
            rcases HL9.out.2.2 with q | q
            · exact Or.inl q
            · right; rw [q]; simp)
          have HN : Hid (∃ sf' tf', Rl w (w9.setCell ⟨w.heap.size + 1, 2, none⟩ (.slice (some ⟨g9, 0, none⟩) (xs.length + 1) cap9)) (.slice (some ⟨g9, 0, none⟩) (xs.length + 1) cap9) (xs ++ [y]) (ys ++ [(y.l, .slice a1 n1 q1, .slice a2 n2 q2)]) sf' tf') := ⟨_, _, hN⟩
          clear hN
          go_wp2_with fail
          go_roundg (Z - z)
          case measure => omega
          case rel =>
            obtain ⟨sf', tf', hN⟩ := HN.out
            exact ⟨z, n', _, xs ++ [y], _, sf', tf', by simp; omega, hz.2, rfl, by omega, rfl, HX.out, hN⟩
      · have i1 : ¬ (at_ : Int) < (Z : Int) := by omega
        have ez : at_ = Z := by omega
        have hx : rdL (rd s d) n at_ Z xs = .ok (.mk true [] xs) Z := by
          cases n with
          | zero => rw [rdL]
          | succ n => rw [rdL, if_neg hin]
        have HX : Hid (rd s (d + 1) p e = .ok (.mk true [] xs) Z) := HR.out.trans (HRL.out.trans hx)
        obtain ⟨r0, r1, r2, rf⟩ := HRR.out.res.cells
        have rf0 := rf 0
        have rf1 := rf 1
        have rf2 := rf 2
        clear hx rf
        go_wp2_with fail
        refine bodyPost_ret (res2 rfl _ _ w.heap.size _ _ rfl rfl (loadVar25 (set3_cells r0 r1 r2).1 (set3_cells r0 r1 r2).2.1 (set3_cells r0 r1 r2).2.2)) rfl ?_
        have t3 := set3_turn wr w.heap.size (.bool true) (.slice none 0 0) (.slice av xs.length cv)
        have hsz := HRR.out.size
        unfold ItemPost
        rw [HX.out]
        refine ⟨HRR.out.below.trans (t3.below (fun i q => by omega) (by omega)), _, _, rfl, ?_⟩
        have hR := HRR.out
        have ho : Own wr (w.heap.size + 2) wr.heap.size (.mk true [] xs) (.slice none 0 0) (.slice av xs.length cv) := .lst ys sf tf hR.own (fun q hq => (hR.own.lt q hq).2) hR.len (by omega) hR.h1 hR.h2 hR.h3 hR.h4 hR.hb hR.hr
        exact (ho.turn t3 (fun i q1 q2 => by omega) (Nat.le_refl _)).wide (by omega) (by simp)
/-- READING, however many lists it may go down -/
theorem read_any (d : Nat) (hd : d ≤ 80) : (∀ (w : World) (a : Option Addr) (b off e c p : Nat) (s : List Nat), Vp w a b off e c s → p < e → ¬ gd s p < 192 →
      Calls Tryz.prog 122 #[.slice a e c, .int .i64 p, .int .i64 ((80 - d : Nat) : Int)] w (ItemPost s d p e w)) ∧
    (∀ (w : World) (a : Option Addr) (b off e c p : Nat) (s : List Nat), Vp w a b off e c s → p ≤ e →
      Calls Tryz.prog 92 #[.slice a e c, .int .i64 p, .int .i64 ((80 - d : Nat) : Int)] w (ItemPost s d p e w)) := by
  induction d with
  | zero => exact ⟨readList_zero, readItem_any 0 (by omega) readList_zero⟩
  | succ d ih =>
    have h := readList_succ d hd (ih (by omega)).2
    exact ⟨h, readItem_any (d + 1) hd h⟩
end Go.Proofs.YtddpcoglbmlgcaaGreatDoor
