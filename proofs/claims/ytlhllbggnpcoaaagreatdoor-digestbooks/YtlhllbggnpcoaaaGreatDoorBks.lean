import Derived.Test.YtlhllbggnpcoaaaGreatDoorSt4
import Derived.Test.YtlhllbggnpcoaaaGreatDoorRNe
import Derived.Test.YtlhllbggnpcoaaaGreatDoorFx
import Derived.Test.YtlhllbggnpcoaaaGreatDoorTwo4
/-
  DigestBooks: the walk.
-/
namespace Go.Proofs.YtlhllbggnpcoaaaGreatDoor
open Go.RowKit Go.Sort Go.Maps

/-- the script, as it lies -/
def Scr (W : World) (pa : Option Addr) (pn : Nat) : Prop := ∀ i, i < pn → ∃ (pb po : Nat) (kind : Int) (a : Option Addr) (b off c : Nat) (t k : List Nat), pa = some ⟨pb, po, none⟩ ∧ W.rangeAt pb (po + i * 34) (.int .i64 kind :: .slice a t.length c :: bv k) ∧ Vw W a b off t ∧ t.length ≤ c ∧ (a = none → c = 0) ∧ t.length ≤ 140737488351232 ∧ IsH k
/-- a play's cells -/
def plc (bits cbits : Int) (sa : Option Addr) (sn sc : Nat) (pa : Option Addr) (pn pc : Nat) : Array Value := #[.int .i64 bits, .int .i64 cbits, .slice sa sn sc, .slice pa pn pc]
theorem plc_cells {w : World} {ob : Nat} {bits cbits : Int} {sa : Option Addr} {sn sc : Nat} {pa : Option Addr} {pn pc : Nat} (h : w.heap[ob]? = some (.cells (plc bits cbits sa sn sc pa pn pc) 41 (0, 0))) :
    w.cell? ⟨ob, 0, none⟩ = some (.int .i64 bits) ∧ w.cell? ⟨ob, 1, none⟩ = some (.int .i64 cbits) ∧ w.cell? ⟨ob, 2, none⟩ = some (.slice sa sn sc) ∧ w.cell? ⟨ob, 3, none⟩ = some (.slice pa pn pc) := by
  have cc : ∀ j, w.cell? ⟨ob, j, none⟩ = (plc bits cbits sa sn sc pa pn pc)[j]? := fun j => cell_of_row w ob j _ 41 (0, 0) h
  exact ⟨by rw [cc]; rfl, by rw [cc]; rfl, by rw [cc]; rfl, by rw [cc]; rfl⟩
theorem info_op : (Tryz.prog.info? 49).map (·.size) = some 34 := by kernel_rfl
theorem op_len {kind : Int} {a : Option Addr} {n c : Nat} {k : List Nat} (h : IsH k) : (Tryz.prog.info? 49).map (·.size) = some (Value.int .i64 kind :: .slice a n c :: bv k).length := by
  rw [info_op, List.length_cons, List.length_cons, bv_len, h.1]

set_option maxRecDepth 100000 in
set_option maxHeartbeats 3200000 in
/-- a book that may not be -/
theorem books_refused (W : World) (hG : Gr W) (bits cbits err : Int) (sa : Option Addr) (sB so sc : Nat) (S : List Nat) (hs : Vw W sa sB so S) (hsn : sa = none → sc = 0) (hS : S.length ≤ 140737488351232) (pa : Option Addr) (pn pc : Nat)
    (hp : ∀ (w : World) (a : Option Addr) (c : Nat), Calls Tryz.prog 5 #[.int .i64 bits, .int .i64 cbits, .slice a S.length c] w fun e w' => e = .returned (.tuple #[.pointer none, .int .i64 err]) ∧ Below w.heap.size w w')
    (hr : ∀ (w : World) (a : Option Addr) (c : Nat), Calls Tryz.prog 17 #[.int .i64 bits, .int .i64 cbits, .slice a S.length c] w fun e w' => e = .returned (.tuple #[.pointer none, .int .i64 err]) ∧ w' = w) :
    Calls Tryz.prog 4 #[.agg (plc bits cbits sa S.length sc pa pn pc)] W fun e w' => e = .returned (.bool true) ∧ Below W.heap.size W w' := by
  have b1 : Below W.heap.size W (W.alloc (.cells (plc bits cbits sa S.length sc pa pn pc) 41)) := (Below.refl _ _).alloc (Nat.le_refl _) _
  have e1 : (W.alloc (.cells (plc bits cbits sa S.length sc pa pn pc) 41)).heap[W.heap.size]? = some (.cells (plc bits cbits sa S.length sc pa pn pc) 41 (0, 0)) := heap_alloc_new _ _
  obtain ⟨w1, hw1⟩ : ∃ w1, w1 = W.alloc (.cells (plc bits cbits sa S.length sc pa pn pc) 41) := ⟨_, rfl⟩
  obtain ⟨ob, hob⟩ : ∃ ob, ob = W.heap.size := ⟨_, rfl⟩
  rw [← hw1] at b1 e1
  rw [← hob] at e1
  have HOB : Hid (∀ v, Below w1.heap.size w1 v → v.cell? ⟨ob, 0, none⟩ = some (.int .i64 bits) ∧ v.cell? ⟨ob, 1, none⟩ = some (.int .i64 cbits) ∧ v.cell? ⟨ob, 2, none⟩ = some (.slice sa S.length sc) ∧ v.cell? ⟨ob, 3, none⟩ = some (.slice pa pn pc)) := fun v hv => plc_cells ((hv.block ob (Array.getElem?_eq_some_iff.1 e1).1).trans e1)
  have H1 : Hid (Below W.heap.size W w1 ∧ Gr W ∧ Vw W sa sB so S) := ⟨b1, hG, hs⟩
  have rm := roomy_any4 w1 sa sB so sc S (hs.below b1) hsn (by omega)
  have c2 := (HOB.out w1 (Below.refl _ _)).2.2.1
  have HP : Hid (∀ (w : World) (a : Option Addr) (c : Nat), Calls Tryz.prog 5 #[.int .i64 bits, .int .i64 cbits, .slice a S.length c] w fun e w' => e = .returned (.tuple #[.pointer none, .int .i64 err]) ∧ Below w.heap.size w w') := hp
  have HR : Hid (∀ (w : World) (a : Option Addr) (c : Nat), Calls Tryz.prog 17 #[.int .i64 bits, .int .i64 cbits, .slice a S.length c] w fun e w' => e = .returned (.tuple #[.pointer none, .int .i64 err]) ∧ w' = w) := hr
  clear hG hs hp hr b1 e1
  go_enter Tryz.func4, Tryz.ntmps4
  go_upto_region 1 with fail
  rw [← hw1, ← hob]
  clear hw1 hob
  go_wp2_with fail
  refine rm.mono ?_
  rintro _ w2 ⟨g, cap, rfl, sd, hg, b2⟩
  have HD : Hid (Str w2 (fun i => i = g) (.slice (some ⟨g, 0, none⟩) (S ++ mks).length cap) (S ++ mks) ∧ Below w1.heap.size w1 w2) := ⟨sd, b2⟩
  obtain ⟨c0, c1, _, _⟩ := HOB.out w2 b2
  have cn := HP.out w2 (some ⟨g, 0, none⟩) cap
  clear rm c2 sd b2 hg HP
  go_wp2_with fail
  refine cn.mono ?_
  rintro _ w3 ⟨rfl, b3⟩
  have b13 : Below w1.heap.size w1 w3 := HD.out.2.trans (b3.mono HD.out.2.size)
  have H3 : Hid (Below w1.heap.size w1 w3 ∧ Str w3 (fun i => i = g) (.slice (some ⟨g, 0, none⟩) (S ++ mks).length cap) (S ++ mks)) := ⟨b13, HD.out.1.turn (Turn.of_below b3 (F := fun _ => False)) (fun _ _ _ q => q)⟩
  obtain ⟨c0, c1, c2, _⟩ := HOB.out w3 b13
  have cr := HR.out w3 sa sc
  clear cn b3 b13 HD HR
  go_wp2_with fail
  refine cr.mono ?_
  rintro _ w3' ⟨rfl, hw3⟩
  have hw4 := hw3.symm
  subst hw4
  clear hw3
  have wh := whole_any4 w3 (fun i => i = g) g cap S H3.out.2 sa sB so sc (H1.out.2.2.below (H1.out.1.trans (H3.out.1.mono H1.out.1.size)))
  go_wp2_with fail
  refine wh.mono ?_
  rintro _ w5 ⟨rfl, q5, hw5⟩
  have b5 : Below W.heap.size W w5 := by
    have h3 := H1.out.1.trans (H3.out.1.mono H1.out.1.size)
    rw [hw5]
    exact h3.trans ((below_drewN (Below.refl _ _) q5).mono h3.size)
  have H5 : Hid (Below W.heap.size W w5) := b5
  have fx := fixed_any w5 (H1.out.2.1.below b5).g
  clear wh hw5 b5 H3 cr
  go_wp2_with fail
  refine fx.mono ?_
  rintro _ w6 ⟨rfl, b6⟩
  have H6 : Hid (Below W.heap.size W w6) := H5.out.trans (b6.mono H5.out.size)
  clear b6 fx
  go_wp2_with fail
  go_ret
  exact ⟨rfl, H6.out⟩

set_option maxRecDepth 100000 in
set_option maxHeartbeats 6400000 in
/-- a book, and its script -/
theorem books_ok (W : World) (hG : Gr W) (bits cbits : Nat) (h1 : 8 ≤ bits ∧ bits ≤ 256) (h2 : 8 ≤ cbits ∧ cbits ≤ 256) (sa : Option Addr) (sB so sc : Nat) (S : List Nat) (hs : Vw W sa sB so S) (hsn : sa = none → sc = 0) (hS : S.length = 32) (pa : Option Addr) (pn pc : Nat) (hp : Scr W pa pn) :
    Calls Tryz.prog 4 #[.agg (plc bits cbits sa 32 sc pa pn pc)] W fun e w' => e = .returned (.bool true) ∧ Below W.heap.size W w' := by
  have b1 : Below W.heap.size W (W.alloc (.cells (plc bits cbits sa 32 sc pa pn pc) 41)) := (Below.refl _ _).alloc (Nat.le_refl _) _
  have e1 : (W.alloc (.cells (plc bits cbits sa 32 sc pa pn pc) 41)).heap[W.heap.size]? = some (.cells (plc bits cbits sa 32 sc pa pn pc) 41 (0, 0)) := heap_alloc_new _ _
  obtain ⟨w1, hw1⟩ : ∃ w1, w1 = W.alloc (.cells (plc bits cbits sa 32 sc pa pn pc) 41) := ⟨_, rfl⟩
  obtain ⟨ob, hob⟩ : ∃ ob, ob = W.heap.size := ⟨_, rfl⟩
  rw [← hw1] at b1 e1
  rw [← hob] at e1
  have H1 : Hid (Below W.heap.size W w1 ∧ Gr W ∧ Vw W sa sB so S ∧ W.heap.size ≤ ob ∧ w1.heap[ob]? = some (.cells (plc bits cbits sa 32 sc pa pn pc) 41 (0, 0)) ∧ Scr W pa pn ∧ S.length = 32 ∧ (8 ≤ bits ∧ bits ≤ 256) ∧ (8 ≤ cbits ∧ cbits ≤ 256)) := ⟨b1, hG, hs, by omega, e1, hp, hS, h1, h2⟩
  have rm := roomy_any4 w1 sa sB so sc S (hs.below b1) hsn (by omega)
  rw [hS] at rm
  have c2 := (plc_cells e1).2.2.1
  clear hG hs b1 e1 h1 h2 hp
  go_enter Tryz.func4, Tryz.ntmps4
  go_upto_region 1 with fail
  rw [← hw1, ← hob]
  clear hw1 hob
  go_wp2_with fail
  refine rm.mono ?_
  rintro _ w2 ⟨g, cap, rfl, sd, hg, b2⟩
  have lob : ob < w1.heap.size := (Array.getElem?_eq_some_iff.1 H1.out.2.2.2.2.1).1
  have H2 : Hid (Below w1.heap.size w1 w2 ∧ w2.heap[ob]? = some (.cells (plc bits cbits sa 32 sc pa pn pc) 41 (0, 0)) ∧ Below W.heap.size W w2 ∧ W.heap.size ≤ g ∧ ob ≠ g) := ⟨b2, (b2.block ob lob).trans H1.out.2.2.2.2.1, H1.out.1.trans (b2.mono H1.out.1.size), Nat.le_trans H1.out.1.size hg, by omega⟩
  have HSD : Hid (Str w2 (fun i => i = g) (.slice (some ⟨g, 0, none⟩) (S ++ mks).length cap) (S ++ mks)) := sd
  obtain ⟨c0, c1, _, _⟩ := plc_cells H2.out.2.1
  have vd : Vw w2 (some ⟨g, 0, none⟩) g 0 S := vwd_of2 (str_pre sd)
  have cn := new_ok w2 bits cbits (some ⟨g, 0, none⟩) g 0 cap S vd H1.out.2.2.2.2.2.2.2.1 H1.out.2.2.2.2.2.2.2.2 H1.out.2.2.2.2.2.2.1 W.heap.size H2.out.2.2.1.size
  clear rm c2 sd b2 hg vd lob
  go_wp2_with fail
  refine cn.mono ?_
  rintro _ w3 ⟨sb, F, rfl, b3, bk3, hF3⟩
  have H3 : Hid (Below w2.heap.size w2 w3 ∧ Book w3 W.heap.size sb ⟨bits, cbits, gd S, [], [], []⟩ F ∧ (∀ i, F i → w2.heap.size ≤ i) ∧ w3.heap[ob]? = some (.cells (plc bits cbits sa 32 sc pa pn pc) 41 (0, 0)) ∧ Below W.heap.size W w3) := ⟨b3, bk3, hF3, (b3.block ob (Array.getElem?_eq_some_iff.1 H2.out.2.1).1).trans H2.out.2.1, H2.out.2.2.1.trans (b3.mono H2.out.2.2.1.size)⟩
  obtain ⟨c0, c1, c2, _⟩ := plc_cells H3.out.2.2.2.1
  have cr := rnew_ok w3 bits cbits sa sB so sc S (H1.out.2.2.1.below H3.out.2.2.2.2) hsn H1.out.2.2.2.2.2.2.2.1 H1.out.2.2.2.2.2.2.2.2 H1.out.2.2.2.2.2.2.1 W.heap.size H3.out.2.2.2.2.size
  clear cn b3 bk3 hF3
  go_wp2_with fail
  refine cr.mono ?_
  rintro _ w4 ⟨qb, G, rfl, b4, rb4, hq4, hG4⟩
  have b24 := H3.out.1.trans (b4.mono H3.out.1.size)
  obtain ⟨og, hog⟩ := str_obj HSD.out
  have lg : g < w2.heap.size := (Array.getElem?_eq_some_iff.1 hog).1
  have lob : ob < w2.heap.size := (Array.getElem?_eq_some_iff.1 H2.out.2.1).1
  have d4 : DX W w4 sb qb ⟨bits, cbits, gd S, [], [], []⟩ ⟨bits, cbits, gd S, [], [], []⟩ F G [(g, og), (ob, .cells (plc bits cbits sa 32 sc pa pn pc) 41 (0, 0))] := by
    have lF := H3.out.2.1.lim
    refine ⟨H3.out.2.1.below b4, rb4, fun z => by have := (lF qb z).2; omega, fun i hi z => by have := hG4 i hi; have := (lF i z).2; omega, H3.out.2.2.2.2.trans (b4.mono H3.out.2.2.2.2.size), fun p hp => ?_⟩
    have s3 := H3.out.1.size
    rcases List.mem_cons.1 hp with rfl | hp
    · exact ⟨(b24.block g lg).trans hog, fun z => by have := H3.out.2.2.1 g z; omega, fun z => by have := hG4 g z; omega, by show g ≠ qb; omega⟩
    · rw [List.mem_singleton] at hp
      subst hp
      exact ⟨(b24.block ob lob).trans H2.out.2.1, fun z => by have : w2.heap.size ≤ ob := H3.out.2.2.1 ob z; omega, fun z => by have : w3.heap.size ≤ ob := hG4 ob z; omega, by show ob ≠ qb; omega⟩
  have HD4 : Hid (DX W w4 sb qb ⟨bits, cbits, gd S, [], [], []⟩ ⟨bits, cbits, gd S, [], [], []⟩ F G [(g, og), (ob, .cells (plc bits cbits sa 32 sc pa pn pc) 41 (0, 0))]) := d4
  have HST : Hid (∀ v : World, v.heap[g]? = some og → Str v (fun i => i = g) (.slice (some ⟨g, 0, none⟩) (S ++ mks).length cap) (S ++ mks)) := fun v hv => str_at HSD.out (hv.trans hog.symm)
  have wh := whole_any4 w4 (fun i => i = g) g cap S (HST.out _ (d4.at_ (List.mem_cons_self ..))) sa sB so sc (H1.out.2.2.1.below d4.low)
  rw [H1.out.2.2.2.2.2.2.1] at wh
  have c2 := (plc_cells (d4.at_ (List.mem_cons_of_mem _ (List.mem_cons_self ..)))).2.2.1
  clear cr b4 rb4 hq4 hG4 b24 hog lg lob d4 HSD
  go_wp2_with fail
  refine wh.mono ?_
  rintro _ w5 ⟨rfl, q5, hw5⟩
  have d5 := HD4.out.below (by rw [hw5]; exact below_drewN (Below.refl _ _) q5 : Below w4.heap.size w4 w5)
  have HD5 : Hid (DX W w5 sb qb ⟨bits, cbits, gd S, [], [], []⟩ ⟨bits, cbits, gd S, [], [], []⟩ F G [(g, og), (ob, .cells (plc bits cbits sa 32 sc pa pn pc) 41 (0, 0))]) := d5
  have fx := fixed_any w5 (H1.out.2.1.below d5.low).g
  clear wh hw5 d5 HD4
  go_wp2_with fail
  refine fx.mono ?_
  rintro _ w6 ⟨rfl, b6⟩
  have d6 := HD5.out.below b6
  have HD6 : Hid (DX W w6 sb qb ⟨bits, cbits, gd S, [], [], []⟩ ⟨bits, cbits, gd S, [], [], []⟩ F G [(g, og), (ob, .cells (plc bits cbits sa 32 sc pa pn pc) 41 (0, 0))]) := d6
  have sm := smudge_any4 w6 (fun i => i = g) g cap S (str_pre (HST.out _ (d6.at_ (List.mem_cons_self ..)))) 98 (by decide) (by have := H1.out.2.2.2.2.2.2.1; omega)
  rw [H1.out.2.2.2.2.2.2.1, show ((98 : Nat) : Int) = 98 from rfl] at sm
  clear b6 d6 fx HD5
  go_wp2_with fail
  refine sm.mono ?_
  rintro _ w7 ⟨rfl, t7⟩
  have l7 : g < w7.heap.size := Nat.lt_of_lt_of_le (Array.getElem?_eq_some_iff.1 (HD6.out.at_ (List.mem_cons_self ..))).1 t7.size
  have d7 := (HD6.out.write H2.out.2.2.2.1 (fun p hp => by rw [List.mem_singleton] at hp; rw [hp]; exact H2.out.2.2.2.2) t7 (Array.getElem?_eq_getElem l7)).drop (E' := [(ob, .cells (plc bits cbits sa 32 sc pa pn pc) 41 (0, 0))]) (fun p hp => List.mem_cons_of_mem _ hp)
  have HD7 : Hid (DX W w7 sb qb ⟨bits, cbits, gd S, [], [], []⟩ ⟨bits, cbits, gd S, [], [], []⟩ F G [(ob, .cells (plc bits cbits sa 32 sc pa pn pc) 41 (0, 0))]) := d7
  have HB7 : Hid (Bd ⟨bits, cbits, gd S, [], [], []⟩ 0) := ⟨Nat.le_refl _, Nat.le_refl _, Nat.le_refl _, fun s hs => by simp at hs, fun s hs => by simp at hs, fun s hs => by simp at hs⟩
  clear t7 l7 d7 sm HD6 HST H2 H3
  go_wp2_with fail
  go_loopg [8] 200 (fun gg ii wr => ∃ (i : Nat) (st : Bst) (F G : Nat → Prop), i ≤ 200 ∧ gg = 200 - i ∧ ii = .int .i64 i ∧ Bd st (2 * i) ∧ DX W wr sb qb st st F G [(ob, .cells (plc bits cbits sa 32 sc pa pn pc) 41 (0, 0))])
  case atStart => exact ⟨0, _, _, _, by omega, rfl, rfl, HB7.out, HD7.out⟩
  case round =>
    clear HD7 HB7
    obtain ⟨i, st, F', G', hi, rfl, rfl, hB, hD⟩ := hrel
    have HD : Hid (DX W wr sb qb st st F' G' [(ob, .cells (plc bits cbits sa 32 sc pa pn pc) 41 (0, 0))] ∧ Bd st (2 * i)) := ⟨hD, hB⟩
    have c3 := (plc_cells (hD.at_ (List.mem_cons_self ..))).2.2.2
    clear hB hD
    by_cases hgo : i < pn ∧ i < 200
    · obtain ⟨hip, hi2⟩ := hgo
      have i1 : (i : Int) < (pn : Int) := by omega
      have i2 : (i : Int) < 200 := by omega
      obtain ⟨pb, po, kind, a, b, off, c, t, k, rfl, rg, vt, hc, hn, hl, hk⟩ := H1.out.2.2.2.2.2.1 i hip
      have rgw : wr.rangeAt pb (po + i * 34) (.int .i64 kind :: .slice a t.length c :: bv k) := fun j u hu => by
        have := rg j u hu
        exact (HD.out.1.low.cell (p := ⟨pb, po + i * 34 + j, none⟩) (World.block_lt_of_cell? W ⟨pb, po + i * 34 + j, none⟩ this)).trans this
      have sp := step_any W wr sb qb st F' G' (2 * i) [(ob, .cells (plc bits cbits sa 32 sc (some ⟨pb, po, none⟩) pn pc) 41 (0, 0))] HD.out.1 H1.out.2.1 HD.out.2 (by omega) kind a b off c t vt hc hn hl k hk
      have HRG : Hid (wr.rangeAt pb (po + i * 34) (.int .i64 kind :: .slice a t.length c :: bv k) ∧ IsH k) := ⟨rgw, hk⟩
      clear rg rgw vt hc hn hl hk
      go_wp2_with (refine wpList_load_mid (by rfl) 49 _ (by rfl) pb (po + i * 34) (by rfl) _ _ HRG.out.1 Tryz.underlying49 (by rfl) (op_len HRG.out.2) ?_)
      refine sp.mono ?_
      rintro _ w8 ⟨rfl, st', F2, G2, hB', hD'⟩
      have HN : Hid (Bd st' (2 * (i + 1)) ∧ DX W w8 sb qb st' st' F2 G2 [(ob, .cells (plc bits cbits sa 32 sc (some ⟨pb, po, none⟩) pn pc) 41 (0, 0))]) := ⟨hB', hD'⟩
      clear sp hB' hD' HRG HD
      go_wp2_with fail
      go_roundg (200 - (i + 1))
      case measure => omega
      case rel => exact ⟨i + 1, st', F2, G2, hi2, rfl, by go_num, HN.out.1, HN.out.2⟩
    · have tl := told_any wr W.heap.size sb qb st F' G' HD.out.1.bk HD.out.1.rb HD.out.1.tk (HD.out.2.small (by omega)) (by have := HD.out.2.h; omega) (by have := HD.out.2.c; omega) (by have := HD.out.2.f; omega)
      by_cases hip : i < pn
      · have i1 : (i : Int) < (pn : Int) := by omega
        have i2 : ¬ (i : Int) < 200 := by omega
        go_wp2_with fail
        refine tl.mono ?_
        rintro _ w9 ⟨rfl, k9, q9, t9⟩
        have H9 : Hid (Below W.heap.size W w9) := (HD.out.1.told k9 q9 t9).low
        clear tl k9 q9 t9
        go_wp2_with fail
        go_ret
        exact ⟨rfl, H9.out⟩
      · have i1 : ¬ (i : Int) < (pn : Int) := by omega
        go_wp2_with fail
        refine tl.mono ?_
        rintro _ w9 ⟨rfl, k9, q9, t9⟩
        have H9 : Hid (Below W.heap.size W w9) := (HD.out.1.told k9 q9 t9).low
        clear tl k9 q9 t9
        go_wp2_with fail
        go_ret
        exact ⟨rfl, H9.out⟩

/-- DigestBooks, whatever is played -/
theorem books_any (W : World) (hG : Gr W) (bits cbits : Int) (sa : Option Addr) (sB so sc : Nat) (S : List Nat) (hs : Vw W sa sB so S) (hsn : sa = none → sc = 0) (hS : S.length ≤ 140737488351232) (pa : Option Addr) (pn pc : Nat) (hp : Scr W pa pn) :
    Calls Tryz.prog 4 #[.agg (plc bits cbits sa S.length sc pa pn pc)] W fun e w' => e = .returned (.bool true) ∧ Below W.heap.size W w' := by
  by_cases h : bits < 8 ∨ 256 < bits ∨ cbits < 8 ∨ 256 < cbits
  · refine books_refused W hG bits cbits 40 sa sB so sc S hs hsn hS pa pn pc (fun w a c => ?_) (fun w a c => rnew_bits w bits cbits _ h)
    by_cases h1 : bits < 8 ∨ 256 < bits
    · exact (new_bits1 w bits cbits _ h1).mono (fun e w' q => ⟨q.1, by rw [q.2]; exact Below.refl _ _⟩)
    · exact (new_bits2 w bits cbits _ (by omega) (by omega) (by omega)).mono (fun e w' q => ⟨q.1, by rw [q.2]; exact Below.refl _ _⟩)
  · obtain ⟨n, rfl⟩ : ∃ n : Nat, bits = n := ⟨bits.toNat, by omega⟩
    obtain ⟨m, rfl⟩ : ∃ m : Nat, cbits = m := ⟨cbits.toNat, by omega⟩
    by_cases h32 : S.length = 32
    · rw [h32]
      exact books_ok W hG n m (by omega) (by omega) sa sB so sc S hs hsn h32 pa pn pc hp
    · exact books_refused W hG n m 41 sa sB so sc S hs hsn hS pa pn pc (fun w a c => new_key w n m a S.length c (by omega) (by omega) h32) (fun w a c => rnew_key w n m a S.length c (by omega) (by omega) h32)
end Go.Proofs.YtlhllbggnpcoaaaGreatDoor
