import Derived.Test.YtledfigfokoiiaaPkq
/-
  Unpack.
-/
namespace Go.Proofs.Ytledfigfokoiiaa
open Go.RowKit
theorem rowG_own {w : World} {B g n e : Nat} {f : Nat → Value} (r : w.rowIs g e n f) (hB : B ≤ g) (hm : n ≤ maxLen) (xs : List Value) (hl : xs.length = n) (hx : ∀ i, i < n → xs[i]? = some (f i)) : w.ownsRow B e 1 (.slice (some ⟨g, 0, none⟩) n n) n xs := by
  obtain ⟨c, hg, hsz, hc⟩ := r
  refine ⟨by omega, Or.inr ⟨g, n, c, rfl, hB, hg, Nat.le_refl _, hm, by omega, ?_⟩⟩
  apply List.ext_getElem?
  intro i
  rw [Nat.mul_one, List.getElem?_take]
  by_cases hi : i < n
  · rw [if_pos hi, hx i hi]
    simpa using hc i (by omega)
  · rw [if_neg hi, List.getElem?_eq_none (by omega)]
/-- LISTS THAT WERE HANDED OUT: all at B or behind it, each in a block of its own. -/
structure Gt (w : World) (B : Nat) (v : Value) (Us : List Value) (L : List (List Nat)) : Prop where
  own : w.ownsRow B 23 1 v L.length Us
  str : ∀ (i : Nat) (u : Value) (s : List Nat), Us[i]? = some u → L[i]? = some s → Str w (fun q => B ≤ q) u s ∧ s.length ≤ 140737488351232
  sep : Us.Pairwise Sep
theorem Gt.len {w : World} {B : Nat} {v : Value} {Us : List Value} {L : List (List Nat)} (h : Gt w B v Us L) : Us.length = L.length := by
  have := h.own.1
  omega
theorem Gt.nil (w : World) (B : Nat) : Gt w B (.slice none 0 0) [] [] := ⟨⟨rfl, Or.inl ⟨rfl, rfl⟩⟩, (fun i u s hu => by cases hu), List.Pairwise.nil⟩
theorem Gt.lv {w : World} {B : Nat} {v : Value} {Us : List Value} {L : List (List Nat)} (h : Gt w B v Us L) (hl : L.length ≤ 8796093022208) : Lv w v L := by
  have hu : ∀ (i : Nat) (u : Value) (s : List Nat), Us[i]? = some u → L[i]? = some s → Vb w u s := fun i u s hu hs => (h.str i u s hu hs).1.vb (h.str i u s hu hs).2
  rcases h.own.2 with ⟨rfl, h0⟩ | ⟨g, cap, cur, rfl, hB, hg, h1, h2, h3, h4⟩
  · exact ⟨none, 0, 0, 0, Us, by rw [h0], h.len, fun k => by omega, fun i u hi => by have := h.len; have := (List.getElem?_eq_some_iff.1 hi).1; omega, hu, by omega, hl⟩
  · refine ⟨_, g, 0, cap, Us, rfl, h.len, fun _ => rfl, fun i u hi => ?_, hu, h1, hl⟩
    have := h.own.cells (g := g) rfl i u hi
    rw [add_flat] at this
    rw [Nat.zero_add]
    exact this
theorem Gt.turn {F : Nat → Prop} {w w' : World} {B : Nat} {v : Value} {Us : List Value} {L : List (List Nat)} (h : Gt w B v Us L) (t : Turn F w w') (hF : ∀ i, F i → i < B ∨ w.heap.size ≤ i) : Gt w' B v Us L :=
  ⟨own_turn h.own t (fun g hg hf => by have := h.own.lt g hg; have := hF g hf; omega), fun i u s hu hs => ⟨(h.str i u s hu hs).1.turn t (fun i hi hl hf => by have := hF i hf; omega), (h.str i u s hu hs).2⟩, h.sep⟩
theorem Gt.below {w w' : World} {B : Nat} {v : Value} {Us : List Value} {L : List (List Nat)} (h : Gt w B v Us L) (k : Below w.heap.size w w') : Gt w' B v Us L := h.turn (Turn.of_below (F := fun _ => False) k) (fun _ q => q.elim)
/-- the strings of a list that was read -/
structure Rd1 (w : World) (B : Nat) (xs : List It) (ys : List (Bool × Value × Value)) : Prop where
  len : ys.length = xs.length
  l : ∀ (i : Nat) (x : It) (y : Bool × Value × Value), xs[i]? = some x → ys[i]? = some y → y.1 = x.l
  str : ∀ (i : Nat) (x : It) (y : Bool × Value × Value), xs[i]? = some x → ys[i]? = some y → (∃ a n c, y.2.1 = .slice a n c) ∧ (∃ a n c, y.2.2 = .slice a n c) ∧ (x.l = false → Str w (fun q => B ≤ q) y.2.1 x.b ∧ x.b.length ≤ 1048576)
  sep : ∀ (i j : Nat) (x x' : It) (y y' : Bool × Value × Value), i < j → xs[i]? = some x → xs[j]? = some x' → ys[i]? = some y → ys[j]? = some y' → x.l = false → x'.l = false → Sep y.2.1 y'.2.1
theorem Own.lit_parts {w : World} {lo hi : Nat} {xs : List It} {b : List Nat} {vb vi : Value} (h : Own w lo hi (.mk true b xs) vb vi) : ∃ ys, vb = .slice none 0 0 ∧ w.ownsRow lo 46 3 vi xs.length (fl ys) ∧ Rd1 w lo xs ys ∧ xs.length ≤ 1048576 := by
  generalize hx : It.mk true b xs = X at h
  cases h with
  | str hb hlt ok hl => cases hx
  | lst ys s t row hlt hl hn h1 h2 h3 h4 hb hr =>
    injection hx with _ _ e
    subst e
    have mono : ∀ j d, j + d < xs.length → 0 < d → t j ≤ s (j + d) := by
      intro j d
      induction d with
      | zero => intro _ h; omega
      | succ d ih =>
        intro hj _
        by_cases hd : d = 0
        · subst hd
          exact h2 j hj
        · have a1 := ih (by omega) (by omega)
          have a2 := h4 (j + d) (by omega)
          have a3 := h2 (j + d) (by omega)
          rw [← Nat.add_assoc]
          omega
    refine ⟨ys, rfl, row, ⟨hl, hb, fun i x y hx hy => ?_, fun i j x x' y y' hij hx hx' hy hy' e e' => ?_⟩, hn⟩
    · have ho := hr i x y hx hy
      obtain ⟨a1, n1, c1, a2, n2, c2, e1, e2⟩ := ho.lies.form
      refine ⟨⟨_, _, _, e1⟩, ⟨_, _, _, e2⟩, fun e => ?_⟩
      have hi := (List.getElem?_eq_some_iff.1 hx).1
      generalize y.2.1 = p at ho
      generalize y.2.2 = q at ho
      cases ho with
      | str hb' hlt' ok hl' => exact ⟨⟨own_base hb', fun g hg => Nat.le_trans (h1 i hi) (hb'.lt g hg).1, ⟨by show _ ≤ _; have : (It.mk false _ []).b.length ≤ 1048576 := hl'; omega, ok⟩⟩, hl'⟩
      | lst => cases e
    · have hi := (List.getElem?_eq_some_iff.1 hx).1
      have hj := (List.getElem?_eq_some_iff.1 hx').1
      have o1 := hr i x y hx hy
      have o2 := hr j x' y' hx' hy'
      generalize y.2.1 = p at o1
      generalize y.2.2 = q at o1
      generalize y'.2.1 = p' at o2
      generalize y'.2.2 = q' at o2
      have m := mono i (j - i) (by omega) (by omega)
      rw [show i + (j - i) = j by omega] at m
      cases o1 with
      | str b1 l1 _ _ =>
        cases o2 with
        | str b2 l2 _ _ =>
          intro g g1 g2
          have a1 := l1 g g1
          have a2 := (b2.lt g g2).1
          omega
        | lst => cases e'
      | lst => cases e
/-- WHAT Unpack HANDS OUT -/
def UnPost (s : List Nat) (w : World) (e : Ending) (w' : World) : Prop := ∃ u Us, e = .returned (.tuple #[u, .int .i64 (ufE s)]) ∧ Gt w' w.heap.size u Us (uf s) ∧ Below w.heap.size w w'
theorem UnPost.no {s : List Nat} {w w' : World} (h : ufE s = 160 ∧ uf s = []) (b : Below w.heap.size w w') : UnPost s w (.returned (.tuple #[.slice none 0 0, .int .i64 160])) w' :=
  ⟨_, [], by rw [h.1]; rfl, by rw [h.2]; exact Gt.nil _ _, b⟩
theorem info23 : (Try.prog.info? 23).map (fun i => (i.zero, i.size, i.bytes)) = some (some (.slice none 0 0), 1, 24) := by kernel_rfl
set_option maxRecDepth 100000 in
set_option maxHeartbeats 3200000 in
theorem unpack_any (w : World) (v : Value) (s : List Nat) (h : Vb w v s) : Calls Try.prog 8 #[v] w (UnPost s w) := by
  obtain ⟨a, b, off, c, rfl, hv, hc, hnil, hl⟩ := h
  have hsb := (vw_ok hv).2
  have KD := decode_any w a b off c s hv hc (by omega)
  obtain ⟨n, en⟩ : ∃ n, n = s.length := ⟨_, rfl⟩
  rw [← en] at KD hc hl ⊢
  by_cases hbig : n ≤ 131072
  · have i0 : ¬ (131072 : Int) < (n : Int) := by omega
    by_cases hE : decE s = 0
    · by_cases hL : (decX s).l = true
      · obtain ⟨bX, xs, eX⟩ : ∃ bX xs, decX s = .mk true bX xs := by
          have e := It.eta (decX s)
          rw [hL] at e
          exact ⟨_, _, e⟩
        unfold DecPost at KD
        rw [hE, eX, show (It.mk true bX xs).l = true from rfl] at KD
        have HU1 : Hid (xs.all okI = true → ufE s = 0 ∧ uf s = xs.map It.b) := fun q => by
          have := uf_ok (s := s) ⟨by omega, hE, hL, by rw [eX]; exact q⟩
          rw [eX] at this
          exact this
        have HU2 : Hid (∀ (i : Nat) (x : It), xs[i]? = some x → okI x = false → ufE s = 160 ∧ uf s = []) := fun i x hx q => uf_bad (fun z => by
          have := z.2.2.2
          rw [eX] at this
          have := List.all_eq_true.1 this x (List.mem_of_getElem? hx)
          rw [q] at this
          cases this)
        generalize decP s = P at KD
        clear hv en hE hL eX
        go_enter Try.func8, Try.ntmps8
        go_wp2_with fail
        refine KD.mono ?_
        rintro e w1 ⟨vb, vi, rfl, ho, b1⟩
        obtain ⟨ys, rfl, row, hR, hN⟩ := ho.lit_parts
        obtain ⟨ai, ci, rfl⟩ := own_slice row
        obtain ⟨N, eN⟩ : ∃ N, N = xs.length := ⟨_, rfl⟩
        rw [← eN] at row hN ⊢
        obtain ⟨W2, eW2⟩ : ∃ W2, W2 = w1.alloc (.cells #[.bool true, .slice none 0 0, .slice ai N ci] 46) := ⟨_, rfl⟩
        have b2 : Below w1.heap.size w1 W2 := by rw [eW2]; exact below_alloc _ _
        have z2 : W2.heap.size = w1.heap.size + 1 := by rw [eW2]; simp
        have x2 : Bx W2 w1.heap.size 46 (.bool true) (.slice none 0 0) (.slice ai N ci) := by rw [eW2]; exact heap_alloc_new _ _
        have HW2 : Hid (W2 = w1.alloc (.cells #[.bool true, .slice none 0 0, .slice ai N ci] 46)) := eW2
        have HC : Hid (∀ i, i < N → ∃ gi x y, ai = some ⟨gi, 0, none⟩ ∧ gi < w1.heap.size ∧ xs[i]? = some x ∧ ys[i]? = some y ∧ w1.cell? ⟨gi, i * 3, none⟩ = some (.bool x.l) ∧ w1.cell? ⟨gi, i * 3 + 1, none⟩ = some y.2.1 ∧ w1.cell? ⟨gi, i * 3 + 2, none⟩ = some y.2.2) := fun i hi => by
          rcases row.2 with ⟨_, q⟩ | ⟨g, cap, cur, e, _⟩
          · omega
          · injection e with e _ e3
            have hx := List.getElem?_eq_getElem (l := xs) (i := i) (by omega)
            have hy := List.getElem?_eq_getElem (l := ys) (i := i) (by have := hR.len; omega)
            obtain ⟨k1, k2, k3⟩ := fl_at hy
            have c1' := row.cells (g := g) (by rw [e]; rfl) _ _ k1
            have c2' := row.cells (g := g) (by rw [e]; rfl) _ _ k2
            have c3' := row.cells (g := g) (by rw [e]; rfl) _ _ k3
            rw [add_flat] at c1' c2' c3'
            rw [hR.l i _ _ hx hy] at c1'
            exact ⟨g, _, _, e, (row.lt g (by rw [e]; rfl)).2, hx, hy, c1', c2', c3'⟩
        have HR : Hid (Rd1 w1 w.heap.size xs ys ∧ N = xs.length ∧ Below w.heap.size w w1) := ⟨hR, eN, b1⟩
        have hmk := run_make_row' (P := Try.prog) 22 23 (.slice none 0 0) 24 Try.underlying22 info23 rfl .i64 .i64 N (by omega) (by omega)
        have HZ : Hid (Below w1.heap.size w1 W2 ∧ W2.heap.size = w1.heap.size + 1) := ⟨b2, z2⟩
        have HXB : Hid (∀ w', Below W2.heap.size W2 w' → w'.cell? ⟨w1.heap.size, 0, none⟩ = some (.bool true) ∧ w'.cell? ⟨w1.heap.size, 2, none⟩ = some (.slice ai N ci)) := fun w' k => by
          have q := (x2.keep (k.block _ x2.lt)).cells
          exact ⟨q.1, q.2.2.1⟩
        obtain ⟨g0, g1⟩ := HXB.out (W2.alloc (.cells (madeCells #[.slice none 0 0] N) 23)) (below_alloc _ _)
        obtain ⟨g2, g3⟩ := HXB.out W2 (Below.refl _ _)
        have HM : Hid ((W2.alloc (.cells (madeCells #[.slice none 0 0] N) 23)).rowIs W2.heap.size 23 N (fun _ => .slice none 0 0) ∧ Below W2.heap.size W2 (W2.alloc (.cells (madeCells #[.slice none 0 0] N) 23))) := ⟨World.rowIs_made W2 _ N _, below_alloc _ _⟩
        clear row hR b1 ho eN KD b2 z2 x2 eW2
        go_wp2_with (rw [← HW2.out])
        clear g0 g1 g2 g3 hmk
        obtain ⟨U, eU⟩ : ∃ U : Nat → Value, U = fun i => (ys.getD i (false, .slice none 0 0, .slice none 0 0)).2.1 := ⟨_, rfl⟩
        have HUy : Hid (∀ (i : Nat) (y : Bool × Value × Value), ys[i]? = some y → U i = y.2.1) := fun i y hy => by rw [eU]; simp [List.getD, hy]
        clear eU
        go_loopg [33] N (fun g i wr => ∃ k : Nat, k ≤ N ∧ g = N - k ∧ i = .int .i64 k ∧ Below W2.heap.size W2 wr ∧ wr.rowIs W2.heap.size 23 N (fun i => if i < k then U i else .slice none 0 0) ∧ ∀ (j : Nat) (x : It), j < k → xs[j]? = some x → okI x = true)
        case atStart => exact ⟨0, Nat.zero_le _, rfl, rfl, HM.out.2, HM.out.1.congr (fun i _ => by rw [if_neg (by omega)]), fun j x hj => by omega⟩
        case round =>
          clear HM
          obtain ⟨k, hk, rfl, rfl, hb, hr, hok⟩ := hrel
          have HOK : Hid (∀ (j : Nat) (x : It), j < k → xs[j]? = some x → okI x = true) := hok
          have HB : Hid (Below W2.heap.size W2 wr ∧ wr.rowIs W2.heap.size 23 N (fun i => if i < k then U i else .slice none 0 0)) := ⟨hb, hr⟩
          clear hok hb hr
          by_cases hkn : k < N
          · have i1 : (k : Int) < (N : Int) := by omega
            obtain ⟨gi, x, y, rfl, hgi, hx, hy, c0, c1, c2⟩ := HC.out k hkn
            obtain ⟨⟨a1, n1, q1, e1⟩, ⟨a2, n2, q2, e2⟩, hst⟩ := HR.out.1.str k x y hx hy
            have bw := ch HZ.out.1 HB.out.1
            have d0 : wr.cell? ⟨gi, k * 3, none⟩ = some (.bool x.l) := (bw.cell (p := ⟨gi, k * 3, none⟩) hgi).trans c0
            have d1 : wr.cell? ⟨gi, k * 3 + 1, none⟩ = some (.slice a1 n1 q1) := ((bw.cell (p := ⟨gi, k * 3 + 1, none⟩) hgi).trans c1).trans (congrArg some e1)
            have d2 : wr.cell? ⟨gi, k * 3 + 2, none⟩ = some (.slice a2 n2 q2) := ((bw.cell (p := ⟨gi, k * 3 + 2, none⟩) hgi).trans c2).trans (congrArg some e2)
            have HX : Hid (xs[k]? = some x ∧ ys[k]? = some y ∧ U k = .slice a1 n1 q1) := ⟨hx, hy, (HUy.out k y hy).trans e1⟩
            have hgz : W2.heap.size < wr.heap.size := HB.out.2.lt
            clear c0 c1 c2 bw hx hy
            cases hl' : x.l with
            | true =>
              rw [hl'] at d0
              have HNO : Hid (ufE s = 160 ∧ uf s = []) := HU2.out k x HX.out.1 (by unfold okI; rw [hl']; rfl)
              have HBB : Hid (Below w.heap.size w wr) := ch HR.out.2.2 (ch HZ.out.1 HB.out.1)
              clear hst e1 e2
              go_wp2_with fail
              go_ret2
              exact UnPost.no HNO.out (ch HBB.out (below_alloc _ _))
            | false =>
              rw [hl'] at d0
              obtain ⟨sx, slx⟩ := hst hl'
              have en1 : n1 = x.b.length := by
                obtain ⟨aa, cc, ee⟩ := own_slice sx.own
                rw [e1] at ee
                injection ee
              have KS := fun w => stand_any w a1 n1 q1 (by omega)
              by_cases hb1 : ok1 x.b = true
              · have eb : (decide (0 < n1) && decide (n1 ≤ 1024)) = true := by rw [en1]; exact hb1
                rw [eb] at KS
                have HOX : Hid (okI x = true) := by
                  show _ = _
                  unfold okI
                  rw [hl', hb1]
                  rfl
                have r4 := HB.out.2.alloc (.cells #[.bool false, .slice a1 n1 q1, .slice a2 n2 q2] 46)
                have r4c := r4.cell hkn
                have r4f := r4.frozen k
                rw [if_neg (by omega)] at r4c
                have HR4 : Hid ((wr.alloc (.cells #[.bool false, .slice a1 n1 q1, .slice a2 n2 q2] 46)).rowIs W2.heap.size 23 N (fun i => if i < k then U i else .slice none 0 0)) := r4
                clear sx slx en1 eb hb1 e1 e2 hst r4
                go_wp2_with (first
                  | (go_at_call 19; refine (KS _).mono ?_; rintro e w' ⟨rfl, hw'⟩; subst w'))
                go_roundg (N - (k + 1))
                case measure => omega
                case rel =>
                  refine ⟨k + 1, by omega, rfl, by go_num, ?_, ?_, fun j x' hj hx' => ?_⟩
                  · have k1 : Below W2.heap.size W2 (wr.setCell ⟨W2.heap.size, k, none⟩ (.slice a1 n1 q1)) := HB.out.1.setCell (Nat.le_refl _) _
                    exact ch k1 (below_alloc _ _)
                  · refine ((HB.out.2.set k _).alloc _).congr (fun i _ => ?_)
                    by_cases e : i = k
                    · rw [if_pos e, if_pos (by omega), e, HX.out.2.2]
                    · rw [if_neg e]
                      by_cases e' : i < k
                      · rw [if_pos e', if_pos (by omega)]
                      · rw [if_neg e', if_neg (by omega)]
                  · by_cases e : j = k
                    · subst e
                      have : x' = x := by have := HX.out.1; rw [hx'] at this; exact Option.some.inj this
                      subst this
                      exact HOX.out
                    · exact HOK.out j x' (by omega) hx'
              · have hb1 : ok1 x.b = false := by simpa using hb1
                have eb : (decide (0 < n1) && decide (n1 ≤ 1024)) = false := by rw [en1]; exact hb1
                rw [eb] at KS
                have HNO : Hid (ufE s = 160 ∧ uf s = []) := HU2.out k x HX.out.1 (by unfold okI; rw [hl', hb1]; rfl)
                have HBB : Hid (Below w.heap.size w wr) := ch HR.out.2.2 (ch HZ.out.1 HB.out.1)
                clear sx slx en1 eb hb1 e1 e2 hst
                go_wp2_with (first
                  | (go_at_call 19; refine (KS _).mono ?_; rintro e w' ⟨rfl, hw'⟩; subst w'))
                go_ret2
                exact UnPost.no HNO.out (ch HBB.out (below_alloc _ _))
          · have i1 : ¬ (k : Int) < (N : Int) := by omega
            have ek : k = N := by omega
            subst ek
            go_wp2_with fail
            go_ret2
            have hall : xs.all okI = true := List.all_eq_true.2 (fun x hx => by
              obtain ⟨i, hi, rfl⟩ := List.getElem_of_mem hx
              exact HOK.out i _ (by have := HR.out.2.1; omega) (List.getElem?_eq_getElem hi))
            obtain ⟨u1, u2⟩ := HU1.out hall
            have hR := HR.out.1
            have lN := HR.out.2.1
            have bw := ch HZ.out.1 HB.out.1
            have bz := HR.out.2.2.size
            refine ⟨_, ys.map (fun y => y.2.1), by rw [u1]; rfl, ?_, ch HR.out.2.2 bw⟩
            rw [u2]
            have lx : (xs.map It.b).length = k := by rw [List.length_map]; omega
            have okx : ∀ (i : Nat) (x : It), xs[i]? = some x → x.l = false := fun i x hx => by
              have := List.all_eq_true.1 hall x (List.mem_of_getElem? hx)
              unfold okI at this
              simp at this
              exact this.1
            refine ⟨?_, fun i u s' hu hs' => ?_, ?_⟩
            · rw [lx]
              refine rowG_own HB.out.2 (by have := HZ.out.2; omega) (by unfold maxLen; omega) _ (by rw [List.length_map]; have := hR.len; omega) (fun i hi => ?_)
              have hy := List.getElem?_eq_getElem (l := ys) (i := i) (by have := hR.len; omega)
              rw [List.getElem?_map, hy, if_pos hi, HUy.out i _ hy]
              rfl
            · rw [List.getElem?_map] at hu hs'
              obtain ⟨y, hy, rfl⟩ := Option.map_eq_some_iff.1 hu
              obtain ⟨x, hx, rfl⟩ := Option.map_eq_some_iff.1 hs'
              obtain ⟨s1, s2⟩ := (hR.str i x y hx hy).2.2 (okx i x hx)
              exact ⟨s1.turn (Turn.of_below (F := fun _ => False) bw) (fun _ _ _ q => q), by omega⟩
            · rw [List.pairwise_iff_getElem]
              intro i j hi hj hij
              rw [List.length_map] at hi hj
              simp only [List.getElem_map]
              have li : i < xs.length := by have := hR.len; omega
              have lj : j < xs.length := by have := hR.len; omega
              exact hR.sep i j _ _ _ _ hij (List.getElem?_eq_getElem li) (List.getElem?_eq_getElem lj) (List.getElem?_eq_getElem hi) (List.getElem?_eq_getElem hj) (okx i _ (List.getElem?_eq_getElem li)) (okx j _ (List.getElem?_eq_getElem lj))
      · have HU : Hid (ufE s = 160 ∧ uf s = []) := uf_bad (fun q => hL q.2.2.1)
        have hL : (decX s).l = false := by simpa using hL
        unfold DecPost at KD
        rw [hE, hL] at KD
        generalize decP s = P at KD
        clear hv en hE hL
        go_enter Try.func8, Try.ntmps8
        go_wp2_with fail
        refine KD.mono ?_
        rintro e w1 ⟨vb, vi, rfl, ho, b1⟩
        obtain ⟨a1, n1, c1, a2, n2, c2, rfl, rfl⟩ := ho.lies.form
        have HB : Hid (Below w.heap.size w w1) := b1
        clear ho b1 KD
        go_wp2_with fail
        go_ret2
        exact UnPost.no HU.out (ch HB.out (below_alloc _ _))
    · have HU : Hid (ufE s = 160 ∧ uf s = []) := uf_bad (fun q => hE q.2.1)
      unfold DecPost at KD
      obtain ⟨E, eE⟩ : ∃ E, E = decE s := ⟨_, rfl⟩
      obtain ⟨X, eX⟩ : ∃ X, X = decX s := ⟨_, rfl⟩
      rw [← eE, ← eX] at KD
      have i1 : ¬ ((E : Int) = 0) := by omega
      generalize decP s = P at KD
      clear hv en hE eE eX
      go_enter Try.func8, Try.ntmps8
      go_wp2_with fail
      refine KD.mono ?_
      rintro e w1 ⟨vb, vi, rfl, ho, b1⟩
      obtain ⟨a1, n1, c1, a2, n2, c2, rfl, rfl⟩ := ho.lies.form
      have HB : Hid (Below w.heap.size w w1) := b1
      clear ho b1 KD
      go_wp2_with fail
      go_ret2
      exact UnPost.no HU.out (ch HB.out (below_alloc _ _))
  · have HU : Hid (ufE s = 160 ∧ uf s = []) := uf_bad (fun q => by omega)
    have i0 : (131072 : Int) < (n : Int) := by omega
    clear KD hv en
    go_enter Try.func8, Try.ntmps8
    go_wp2_with fail
    go_ret2
    exact UnPost.no HU.out (Below.refl _ _)
end Go.Proofs.Ytledfigfokoiiaa
