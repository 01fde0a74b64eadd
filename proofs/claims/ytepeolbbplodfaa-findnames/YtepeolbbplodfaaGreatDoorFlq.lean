import Derived.Test.YtepeolbbplodfaaGreatDoorDe2q
import Derived.Test.YtepeolbbplodfaaGreatDoorFiq
import Derived.Deep.RegionHeld3
import Derived.Test.YtepeolbbplodfaaGreatDoorFpsq
/-
  Items in memory with the blocks that they lie in; refItem.
-/
namespace Go.Proofs.YtepeolbbplodfaaGreatDoor
open Go.RowKit

/-- bytes in a block of P's -/
def Vf (P : Nat → Prop) (w : World) (v : Value) (s : List Nat) : Prop := ∃ a b off c, v = .slice a s.length c ∧ Vw w a b off s ∧ s.length ≤ c ∧ (a = none → c = 0) ∧ s.length ≤ 140737488351232 ∧ (0 < s.length → P b)
theorem Vf.vb {P : Nat → Prop} {w : World} {v : Value} {s : List Nat} (h : Vf P w v s) : Vb w v s := by
  obtain ⟨a, b, off, c, h1, h2, h3, h4, h5, -⟩ := h
  exact ⟨a, b, off, c, h1, h2, h3, h4, h5⟩
theorem Vf.same {P : Nat → Prop} {w w' : World} {v : Value} {s : List Nat} (h : Vf P w v s) (k : ∀ i, P i → i < w.heap.size → w'.heap[i]? = w.heap[i]?) : Vf P w' v s := by
  obtain ⟨a, b, off, c, h1, h2, h3, h4, h5, h6⟩ := h
  exact ⟨a, b, off, c, h1, ⟨h2.at_, fun i hi => (World.cell?_of_block (w := w) (k b (h6 (by omega)) (h2.lt (by omega)))).trans (h2.cell i hi), h2.bd, h2.len⟩, h3, h4, h5, h6⟩
theorem Vf.mono {P Q : Nat → Prop} {w : World} {v : Value} {s : List Nat} (h : Vf P w v s) (k : ∀ i, P i → i < w.heap.size → Q i) : Vf Q w v s := by
  obtain ⟨a, b, off, c, h1, h2, h3, h4, h5, h6⟩ := h
  exact ⟨a, b, off, c, h1, h2, h3, h4, h5, fun h0 => k b (h6 h0) (h2.lt h0)⟩
theorem vf_of_own {P : Nat → Prop} {w : World} {B : Nat} {v : Value} {s : List Nat} (h : w.ownsRow B 5 1 v s.length (bv s)) (ok : ∀ x ∈ s, x < 256) (hl : s.length ≤ 140737488351232) (hP : ∀ q, v.ownBlock = some q → P q) : Vf P w v s := by
  have st : Str w P v s := ⟨own_base h, hP, ⟨by omega, ok⟩⟩
  obtain ⟨a, g, c, e, hc, hv, hf⟩ := st.view
  refine ⟨a, g, 0, c, e, hv, hc, fun ha => ?_, hl, fun h0 => (hf h0).1⟩
  subst ha
  rcases h.2 with ⟨e2, _⟩ | ⟨g', cap, cur, e2, _⟩
  · rw [e] at e2
    injection e2
  · rw [e] at e2
    injection e2 with e2
    cases e2
/-- AN ITEM THAT LIES IN BLOCKS OF P's -/
inductive Lf (P : Nat → Prop) (w : World) : It → Value → Value → Prop
  | mk {l : Bool} {b : List Nat} {xs : List It} {vb : Value} (a : Option Addr) (blk off c : Nat) (f g : Nat → Value) (hb : Vf P w vb b) (ha : 0 < xs.length → a = some ⟨blk, off, none⟩) (hP : 0 < xs.length → P blk) (hn : 56 * xs.length ≤ 140737488351232)
      (hc : ∀ i x, xs[i]? = some x → w.cell? ⟨blk, off + i * 3, none⟩ = some (.bool x.l) ∧ w.cell? ⟨blk, off + i * 3 + 1, none⟩ = some (f i) ∧ w.cell? ⟨blk, off + i * 3 + 2, none⟩ = some (g i))
      (hr : ∀ i x, xs[i]? = some x → Lf P w x (f i) (g i)) : Lf P w (.mk l b xs) vb (.slice a xs.length c)
theorem Lf.lies {P : Nat → Prop} {w : World} : ∀ {x : It} {vb vi : Value}, Lf P w x vb vi → Lies Vb w x vb vi := by
  intro x vb vi h
  induction h with
  | mk a blk off c f g hb ha hP hn hc hr ih => exact .mk a blk off c f g hb.vb ha hn hc ih
theorem Lf.same {P : Nat → Prop} {w w' : World} (k : ∀ i, P i → i < w.heap.size → w'.heap[i]? = w.heap[i]?) : ∀ {x : It} {vb vi : Value}, Lf P w x vb vi → Lf P w' x vb vi := by
  intro x vb vi h
  induction h with
  | @mk l b xs vb a blk off c f g hb ha hP hn hc hr ih =>
    refine .mk a blk off c f g (hb.same k) ha hP hn (fun i x hx => ?_) ih
    obtain ⟨h1, h2, h3⟩ := hc i x hx
    have hi := (List.getElem?_eq_some_iff.1 hx).1
    have e := k blk (hP (by omega)) (World.block_lt_of_cell? _ _ h1)
    exact ⟨(World.cell?_of_block (w := w) e).trans h1, (World.cell?_of_block (w := w) e).trans h2, (World.cell?_of_block (w := w) e).trans h3⟩
theorem Lf.mono {P Q : Nat → Prop} {w : World} (k : ∀ i, P i → i < w.heap.size → Q i) : ∀ {x : It} {vb vi : Value}, Lf P w x vb vi → Lf Q w x vb vi := by
  intro x vb vi h
  induction h with
  | @mk l b xs vb a blk off c f g hb ha hP hn hc hr ih =>
    refine .mk a blk off c f g (hb.mono k) ha (fun h0 => ?_) hn hc ih
    obtain ⟨h1, -⟩ := hc 0 _ (List.getElem?_eq_getElem h0)
    exact k blk (hP h0) (World.block_lt_of_cell? _ _ h1)
theorem lf_str {P : Nat → Prop} {w : World} {v : Value} {s : List Nat} (h : Vf P w v s) : Lf P w (.mk false s []) v (.slice none 0 0) :=
  .mk (xs := []) none 0 0 0 (fun _ => .bool true) (fun _ => .bool true) h (fun h => by simp at h) (fun h => by simp at h) (by simp) (fun i x hx => by simp at hx) (fun i x hx => by simp at hx)
theorem vf_nil (P : Nat → Prop) (w : World) : Vf P w (.slice none 0 0) [] := ⟨none, 0, 0, 0, rfl, ⟨fun h => by simp at h, fun i hi => by simp at hi, fun i hi => by simp at hi, by simp⟩, by simp, fun _ => rfl, by simp, fun h => by simp at h⟩
/-- a list made of a row -/
theorem lf_list {P : Nat → Prop} {w : World} {B : Nat} {v : Value} {xs : List It} {ys : List (Bool × Value × Value)} (row : w.ownsRow B 191 3 v xs.length (fl ys)) (hl : ys.length = xs.length) (hn : 56 * xs.length ≤ 140737488351232) (hP : ∀ q, v.ownBlock = some q → P q)
    (hb : ∀ (i : Nat) (x : It) (y : Bool × Value × Value), xs[i]? = some x → ys[i]? = some y → y.1 = x.l) (hr : ∀ (i : Nat) (x : It) (y : Bool × Value × Value), xs[i]? = some x → ys[i]? = some y → Lf P w x y.2.1 y.2.2) : Lf P w (.mk true [] xs) (.slice none 0 0) v := by
  obtain ⟨a, c, e⟩ := own_slice row
  subst e
  by_cases h0 : xs.length = 0
  · exact .mk a 0 0 c (fun _ => .bool true) (fun _ => .bool true) (vf_nil P w) (fun h => by omega) (fun h => by omega) hn (fun i x hx => by have := (List.getElem?_eq_some_iff.1 hx).1; omega) (fun i x hx => by have := (List.getElem?_eq_some_iff.1 hx).1; omega)
  · have hA : ∃ g, a = some ⟨g, 0, none⟩ := by
      rcases row.2 with ⟨_, q⟩ | ⟨g, cap, cur, e, _⟩
      · omega
      · injection e with e
        exact ⟨g, e⟩
    obtain ⟨g, rfl⟩ := hA
    refine .mk (some ⟨g, 0, none⟩) g 0 c (fun i => (ys.getD i (true, .bool true, .bool true)).2.1) (fun i => (ys.getD i (true, .bool true, .bool true)).2.2) (vf_nil P w) (fun _ => rfl) (fun _ => hP g rfl) hn (fun i x hx => ?_) (fun i x hx => ?_)
    · have hi := (List.getElem?_eq_some_iff.1 hx).1
      obtain ⟨y, hy⟩ : ∃ y, ys[i]? = some y := ⟨_, List.getElem?_eq_getElem (by omega)⟩
      obtain ⟨k1, k2, k3⟩ := fl_at hy
      have c1' := row.cells (g := g) rfl _ _ k1
      have c2' := row.cells (g := g) rfl _ _ k2
      have c3' := row.cells (g := g) rfl _ _ k3
      rw [add_flat] at c1' c2' c3'
      have eg : ys.getD i (true, .bool true, .bool true) = y := by rw [List.getD_eq_getElem?_getD, hy]; rfl
      rw [Nat.zero_add]
      simp only [eg]
      exact ⟨by rw [c1', hb i x y hx hy], c2', c3'⟩
    · have hi := (List.getElem?_eq_some_iff.1 hx).1
      obtain ⟨y, hy⟩ : ∃ y, ys[i]? = some y := ⟨_, List.getElem?_eq_getElem (by omega)⟩
      have eg : ys.getD i (true, .bool true, .bool true) = y := by rw [List.getD_eq_getElem?_getD, hy]; rfl
      simp only [eg]
      exact hr i x y hx hy
theorem Own.lf {w : World} : ∀ {lo hi : Nat} {x : It} {vb vi : Value}, Own w lo hi x vb vi → Lf (fun k => lo ≤ k ∧ k < hi) w x vb vi := by
  intro lo hi x vb vi h
  induction h with
  | str hb hlt ok hl => exact lf_str (vf_of_own hb ok (by omega) (fun q hq => ⟨(hb.lt q hq).1, hlt q hq⟩))
  | @lst lo hi xs vi ys s t row hlt hl hn h1 h2 h3 h4 hb hr ih =>
    exact lf_list row hl (by omega) (fun q hq => ⟨(row.lt q hq).1, hlt q hq⟩) hb (fun i x y hx hy => (ih i x y hx hy).mono (fun k hk _ => by
      have hi := (List.getElem?_eq_some_iff.1 hx).1
      have := h1 i hi
      have := h3 i hi
      exact ⟨by omega, by omega⟩))

/-- what refItem answers -/
def RitPst (r : Rf) (w : World) (e : Ending) (w' : World) : Prop := ∃ vb vi, e = .returned (iv (rIt r).l vb vi) ∧ Lf (fun k => w.heap.size ≤ k ∧ k < w'.heap.size) w' (rIt r) vb vi ∧ Below w.heap.size w w'
theorem rIt_no {r : Rf} (h1 : r.k ≠ 1) (h2 : r.k ≠ 2) : rIt r = .mk false [] [] := by unfold rIt; rw [if_neg h1, if_neg h2]
theorem ritem_bx {w w1 : World} {cs : Array Value} {t : TypeId} (b1 : Below ((w.alloc (.cells cs t)).alloc (.cells #[.bool false, .slice none 0 0, .slice none 0 0] 191)).heap.size ((w.alloc (.cells cs t)).alloc (.cells #[.bool false, .slice none 0 0, .slice none 0 0] 191)) w1) (o : Obj) : Bx (w1.alloc o) (w.heap.size + 1) 191 (.bool false) (.slice none 0 0) (.slice none 0 0) := by
  have q := b1.size
  rw [World.size_alloc, World.size_alloc] at q
  have := heap_alloc_new (w.alloc (.cells cs t)) (.cells #[.bool false, .slice none 0 0, .slice none 0 0] 191)
  rw [World.size_alloc] at this
  show _ = _
  rw [heap_alloc_old _ _ (by omega), b1.block _ (by rw [World.size_alloc, World.size_alloc]; omega)]
  exact this
end Go.Proofs.YtepeolbbplodfaaGreatDoor

/-
  cairnref07: unpacked.
-/
namespace Go.Proofs.YtepeolbbplodfaaGreatDoor
open Go.RowKit

theorem u8_quo (x : Int) (h0 : 0 ≤ x) (h1 : x ≤ 255) : IntKind.u8.wrap (x.tdiv 16) = x / 16 := by
  rw [Int.tdiv_eq_ediv_of_nonneg h0]
  simp [IntKind.wrap, IntKind.signed, IntKind.bits]
  omega
theorem u8_rem (x : Int) (h0 : 0 ≤ x) (_ : x ≤ 255) : IntKind.u8.wrap (x.tmod 16) = x % 16 := by
  rw [Int.tmod_eq_emod_of_nonneg h0]
  simp [IntKind.wrap, IntKind.signed, IntKind.bits]
  omega
/-- the nibbles of bytes -/
def nibI (Z : Nat → Int) (i : Nat) : Int := if i % 2 = 0 then Z (i / 2) / 16 else Z (i / 2) % 16
/-- the path of bytes, loosely -/
def nbY (s : List Nat) (i : Nat) : Nat := if i % 2 = 0 then gd s (i / 2) / 16 else gd s (i / 2) % 16
def nbL (s : List Nat) : List Nat := lst (2 * s.length) (nbY s)
def uqK (s : List Nat) : Nat := if (gd s 0 / 16) % 2 = 1 then 1 else 2
def uqP (s : List Nat) : List Nat := if s.length = 0 then [] else cut (nbL s) (uqK s) (2 * s.length)
def uqF (s : List Nat) : Bool := decide (0 < s.length) && decide (2 ≤ gd s 0 / 16)
theorem nbL_lt {s : List Nat} (hs : ∀ x ∈ s, x < 256) : ∀ x ∈ nbL s, x < 16 := fun x hx => by
  unfold nbL lst at hx
  obtain ⟨i, hi, rfl⟩ := List.mem_map.1 hx
  have := gd_lt hs (i / 2)
  unfold nbY
  split <;> omega
set_option maxRecDepth 100000 in
set_option maxHeartbeats 1600000 in
theorem runpacked_any {w : World} {v0 : Value} {s : List Nat} (hvb : Vb w v0 s) (hn0 : s.length ≤ 1099511627776) :
    Calls Tryz.prog 124 #[v0] w fun e w' => ∃ u, e = .returned (.tuple #[u, .bool (uqF s)]) ∧ Vf (fun k => w.heap.size ≤ k) w' u (uqP s) ∧ Below w.heap.size w w' := by
  obtain ⟨a, b, off, c, rfl, hv0, -, -, -⟩ := hvb
  obtain ⟨i0, hi0, hz0, hz1, hz2⟩ := info_parts Tryz.info5
  have HI0 : Hid (Tryz.prog.info? 5 = some i0 ∧ i0.zero = some (.int .u8 0) ∧ i0.size = 1 ∧ i0.bytes = 1) := ⟨hi0, hz0, hz1, hz2⟩
  obtain ⟨n, en⟩ : ∃ n, n = s.length := ⟨_, rfl⟩
  have HN : Hid (n = s.length ∧ ∀ x ∈ s, x < 256) := ⟨en, (vw_ok hv0).2⟩
  obtain ⟨Z, eZ⟩ : ∃ Z : Nat → Int, Z = fun i => ((gd s i : Nat) : Int) := ⟨_, rfl⟩
  have HZZ : Hid (∀ i, Z i = ((gd s i : Nat) : Int)) := fun i => by rw [eZ]
  have HV : Hid (View w a b off n Z) := by have q := hv0; unfold Vw at q; rw [← en, ← eZ] at q; exact q
  rw [← en] at hn0 ⊢
  clear hv0 en eZ hi0 hz0 hz1 hz2
  go_enter Tryz.func124, Tryz.ntmps124
  go_wp2_with fail
  go_loopg [4, 5] n (fun g v i wr => ∃ k : Nat, k ≤ n ∧ g = n - k ∧ i = .int .i64 k ∧ wr.ownsRow w.heap.size 5 1 v (2 * k) (vals (nibI Z) (2 * k)) ∧ Below w.heap.size w wr)
  case atStart => exact ⟨0, Nat.zero_le _, rfl, rfl, World.ownsRow_nil _ _ _ _, Below.refl _ _⟩
  case round =>
    obtain ⟨k, hk, rfl, rfl, hown, hbel⟩ := hrel
    have hsz := hbel.size
    by_cases hkn : k < n
    · obtain rfl := HV.out.at_ (by omega)
      have hlt := HV.out.lt (by omega)
      have c1 : wr.cell? ⟨b, off + k, none⟩ = some (.int .u8 (Z k)) := (hbel.cell (p := ⟨b, off + k, none⟩) hlt).trans (HV.out.cell k hkn)
      obtain ⟨b1, b2⟩ := HV.out.bd k hkn
      have i1 : (k : Int) < (n : Int) := by omega
      have i0' : (0 : Int) ≤ (k : Int) := by omega
      have q1 := u8_quo (Z k) b1 b2
      have q2 := u8_rem (Z k) b1 b2
      have q5 : (Z k).tmod 16 = Z k % 16 := Int.tmod_eq_emod_of_nonneg b1
      have e1 : nibI Z (2 * k) = Z k / 16 := by unfold nibI; rw [if_pos (by omega), show 2 * k / 2 = k by omega]
      have e2 : nibI Z (2 * k + 1) = Z k % 16 := by unfold nibI; rw [if_neg (by omega), show (2 * k + 1) / 2 = k by omega]
      have hv := vals_two (nibI Z) (2 * k)
      rw [e1, e2] at hv
      have HVT : Hid (vals (nibI Z) (2 * k) ++ [.int .u8 (Z k / 16), .int .u8 (Z k % 16)] = vals (nibI Z) (2 * k + 2)) := hv
      clear hv e1 e2
      have hne : ∀ v, wr.ownsRow w.heap.size 5 1 v (2 * k) (vals (nibI Z) (2 * k)) → v.ownBlock ≠ some b := fun v ho e => by have := (ho.lt b e).1; omega
      have ag := hne _ hown
      clear hne
      go_wp2_with fail
      go_region_held3 (fun w' => w'.cell? ⟨b, off + k, none⟩ = some (.int .u8 (Z k)))
        (first
          | go_keep
          | (rw [hgrow.cell_far _ (by simp; omega) (Ne.symm ag), World.cell?_drew, World.cell?_alloc_old _ _ _ (by show b ≠ wr.heap.size; omega)]; exact c1))
        ((refine step_append_lies _ (by rfl) _ _ _ (by rfl) w.heap.size 5 i0 _ 1 1 Tryz.underlying33 HI0.out.1 HI0.out.2.1 HI0.out.2.2.1 HI0.out.2.2.2 rfl (by omega) _ (2 * k) _ (by rfl) ((hown.alloc _).drew) ⟨wr.heap.size, 0, none⟩ 2 2 [.int .u8 (Z k / 16), .int .u8 (Z k % 16)] (by rfl) (by rfl) (World.news_of_block (cs := #[.int .u8 (Z k / 16), .int .u8 (Z k % 16)]) (t := 5) (fr := (0, 0)) (heap_alloc_new wr _)) (by simp [Value.oneCell']) (by omega) (by unfold maxLen; omega) (by omega) (by simp; omega) (wr.heap.size + 1) (by simp) ?_; intro gg cap w1 hown1 hgrow hat hlt1))
      have hbel1 : Below w.heap.size w w1 := ((hbel.alloc hsz _).drew).grown hgrow (by simp; omega) (fun j hj => (hown.lt j hj).1)
      rw [HVT.out] at hown1
      clear hgrow hat hlt1 hown
      go_wp2_with fail
      go_roundg (n - (k + 1))
      case measure => omega
      case rel => exact ⟨k + 1, hkn, rfl, by go_num, by rw [show 2 * (k + 1) = 2 * k + 2 by omega]; exact hown1, hbel1⟩
    · have ek : k = n := by omega
      subst ek
      obtain ⟨a4, c4, rfl⟩ := own_slice hown
      have i1 : ¬ (k : Int) < k := by omega
      by_cases h0 : k = 0
      · have HX : Hid (Below w.heap.size w wr ∧ uqF s = false ∧ uqP s = []) := ⟨hbel, by unfold uqF; rw [decide_eq_false (by rw [← HN.out.1]; omega)]; rfl, by unfold uqP; rw [if_pos (by rw [← HN.out.1]; exact h0)]⟩
        subst h0
        clear hown hbel
        go_wp2_with fail
        go_ret2
        rw [HX.out.2.1, HX.out.2.2]
        exact ⟨_, rfl, ⟨none, 0, 0, 0, rfl, ⟨fun h => by simp at h, fun i hi => by simp at hi, fun i hi => by simp at hi, by simp⟩, by simp, fun _ => rfl, by simp, fun h => by simp at h⟩, HX.out.1⟩
      · have hL : (nbL s).length = 2 * k := by unfold nbL; rw [lst_len, ← HN.out.1]
        have hown2 : wr.ownsRow w.heap.size 5 1 (.slice a4 (2 * k) c4) (nbL s).length (bv (nbL s)) := by
          rw [← vals_bv, hL]
          rw [vals_congr (Z := fun i => ((gd (nbL s) i : Nat) : Int)) (fun i hi => ?_)] at hown
          · exact hown
          · unfold nbL
            rw [lst_gd (by rw [← HN.out.1]; exact hi)]
            unfold nibI nbY
            split <;> rw [HZZ.out] <;> omega
        obtain ⟨a5, g5, o5, c5, e5, v5, l5, n5, m5, p5⟩ := vf_of_own (P := fun q => w.heap.size ≤ q) hown2 (fun x hx => by have := nbL_lt HN.out.2 x hx; omega) (by rw [hL]; omega) (fun q hq => (hown2.lt q hq).1)
        injection e5 with z1 z2 z3
        subst z1
        subst z3
        obtain rfl := v5.at_ (by rw [hL]; omega)
        have c0 := v5.cell 0 (by rw [hL]; omega)
        rw [Nat.add_zero] at c0
        have ey : gd (nbL s) 0 = gd s 0 / 16 := by unfold nbL; rw [lst_gd (by rw [← HN.out.1]; omega)]; rfl
        rw [ey] at c0
        have xl := gd_lt HN.out.2 0
        have HK : Hid (∀ K, K ≤ 2 → uqK s = K → Vf (fun q => w.heap.size ≤ q) wr (.slice (behind (some ⟨g5, o5, none⟩) c4 K) (2 * k - K) (c4 - K)) (uqP s)) := fun K h1 h2 => by
          obtain ⟨r1, r2⟩ := vb_cut (l := K) (z := 2 * k) v5 l5 n5 m5 (by omega) (by rw [hL]; exact Nat.le_refl _)
          have e : uqP s = cut (nbL s) K (2 * k) := by unfold uqP; rw [if_neg (by rw [← HN.out.1]; exact h0), h2, ← HN.out.1]
          have el : (cut (nbL s) K (2 * k)).length = 2 * k - K := cut_len (by rw [hL]; exact Nat.le_refl _)
          rw [e]
          exact ⟨_, g5, o5 + K, c4 - K, by rw [el], r1, by rw [el]; rw [hL] at l5; omega, r2, by rw [el]; omega, fun _ => p5 (by rw [hL]; omega)⟩
        have HX : Hid (Below w.heap.size w wr ∧ uqF s = decide (2 ≤ gd s 0 / 16)) := ⟨hbel, by unfold uqF; rw [decide_eq_true (show 0 < s.length by rw [← HN.out.1]; omega)]; rfl⟩
        have HU : Hid (uqK s = if (gd s 0 / 16) % 2 = 1 then 1 else 2) := rfl
        have k0 : ¬ 2 * (k : Int) = 0 := by omega
        have k0b : ((2 * (k : Int)) == 0) = false := by simpa using k0
        have k0c : (0 : Int) < 2 * (k : Int) := by omega
        obtain ⟨y, ey2⟩ : ∃ y, y = gd s 0 / 16 := ⟨_, rfl⟩
        rw [← ey2] at c0 HX HU
        have y16 : y < 16 := by omega
        have jd : decide ((2 : Int) ≤ (y : Int)) = decide (2 ≤ y) := by by_cases q : 2 ≤ y <;> simp [q] <;> omega
        have q7 : (y : Int).tmod 2 = (y : Int) % 2 := Int.tmod_eq_emod_of_nonneg (by omega)
        have q8 : (y : Int) % 2 % 256 = (y : Int) % 2 := by omega
        have sf1 : ∀ w, (Instr.slice 33 (.slice (some ⟨g5, o5, none⟩) (2 * k) c4) (some (.int .i64 1)) none none).run Tryz.prog w = .ok (.slice (behind (some ⟨g5, o5, none⟩) c4 1) (2 * k - 1) (c4 - 1)) w := slice_from (some ⟨g5, o5, none⟩) (2 * k) c4 1 (by omega)
        obtain ⟨bh1, eb1⟩ : ∃ z, z = behind (some ⟨g5, o5, none⟩) c4 1 := ⟨_, rfl⟩
        rw [← eb1] at sf1
        have sf2 : ∀ w, (Instr.slice 33 (.slice (some ⟨g5, o5, none⟩) (2 * k) c4) (some (.int .i64 2)) none none).run Tryz.prog w = .ok (.slice (behind (some ⟨g5, o5, none⟩) c4 2) (2 * k - 2) (c4 - 2)) w := slice_from (some ⟨g5, o5, none⟩) (2 * k) c4 2 (by omega)
        obtain ⟨bh2, eb2⟩ : ∃ z, z = behind (some ⟨g5, o5, none⟩) c4 2 := ⟨_, rfl⟩
        rw [← eb2] at sf2
        clear hown hown2 hbel v5 l5 n5 m5 p5 hL ey ey2 xl z2
        by_cases ho : y % 2 = 1
        · have i3 : ((y : Int) % 2 == 1) = true := by simp; omega
          have i3b : (y : Int) % 2 = 1 := by omega
          have HF := HK.out 1 (by omega) (by rw [HU.out, if_pos ho])
          rw [← eb1] at HF
          have HF2 : Hid (Vf (fun q => w.heap.size ≤ q) wr (.slice bh1 (2 * k - 1) (c4 - 1)) (uqP s)) := HF
          clear HF HK HU ho eb1 eb2
          go_wp2_with fail
          go_ret2
          rw [HX.out.2, ← jd]
          exact ⟨_, rfl, HF2.out, HX.out.1⟩
        · have i3 : ((y : Int) % 2 == 1) = false := by simp; omega
          have i3b : ¬ (y : Int) % 2 = 1 := by omega
          have HF := HK.out 2 (by omega) (by rw [HU.out, if_neg ho])
          rw [← eb2] at HF
          have HF2 : Hid (Vf (fun q => w.heap.size ≤ q) wr (.slice bh2 (2 * k - 2) (c4 - 2)) (uqP s)) := HF
          clear HF HK HU ho eb1 eb2
          go_wp2_with fail
          go_ret2
          rw [HX.out.2, ← jd]
          exact ⟨_, rfl, HF2.out, HX.out.1⟩
end Go.Proofs.YtepeolbbplodfaaGreatDoor

/-
  cairnref07's reading, as functions: what its loose answers. No program.
-/
namespace Go.Proofs.YtepeolbbplodfaaGreatDoor

/-! ### the first form of bytes -/
theorem ptL_take {s : List Nat} {z : Nat} (hz : z ≤ s.length) : ∀ (f i n : Nat), i + f ≤ z → ptL (s.take z) f i n = ptL s f i n
  | 0, _, _, _ => by rw [ptL, ptL]
  | f + 1, i, n, h => by
    have hl : (s.take z).length = z := by simp; omega
    have hg : gd (s.take z) i = gd s i := by
      have := cut_gd (s := s) (a := 0) (e := z) (i := i) (by omega)
      simpa [cut] using this
    rw [ptL, ptL, hl, hg]
    by_cases q : 1048576 < n
    · rw [if_pos (Or.inr q), if_pos (Or.inr q)]
    · rw [if_neg (by omega), if_neg (by omega), ptL_take hz f (i + 1) _ (by omega)]
theorem ptL_mono {s : List Nat} : ∀ (f i n m : Nat), ptL s f i n = some m → f = 0 ∨ i + f ≤ s.length
  | 0, _, _, _, _ => Or.inl rfl
  | f + 1, i, n, m, h => by
    rw [ptL] at h
    split at h
    · cases h
    · rename_i q
      rcases ptL_mono f (i + 1) _ m h with e | e
      · right; omega
      · right; omega
/-- a first form that is whole is that of all pieces that hold it -/
theorem ptF_take {s : List Nat} {z : Nat} (h : (ptF s).ok = true) (hz : (ptF s).e ≤ z) (hs : z ≤ s.length) : ptF (s.take z) = ptF s := by
  have hl : (s.take z).length = z := by simp; omega
  have e0 := (ptF_ok h).1
  have hg : gd (s.take z) 0 = gd s 0 := by
    have := cut_gd (s := s) (a := 0) (e := z) (i := 0) (by omega)
    simpa [cut] using this
  revert h hz
  unfold ptF
  rw [hl, hg]
  by_cases h0 : s.length = 0
  · rw [if_pos h0]; intro h; cases h
  · rw [if_neg h0]
    by_cases h1 : gd s 0 < 128
    · rw [if_pos h1]
      intro _ hz
      have hz : 1 ≤ z := hz
      rw [if_neg (by omega), if_pos h1]
    · rw [if_neg h1]
      by_cases h2 : gd s 0 % 64 < 56
      · rw [if_pos h2]
        intro h hz
        have h : 1 + gd s 0 % 64 ≤ s.length := of_decide_eq_true h
        have hz : 1 + gd s 0 % 64 ≤ z := hz
        rw [if_neg (by omega), if_neg h1, if_pos h2, decide_eq_true h, decide_eq_true hz]
      · rw [if_neg h2]
        cases hp : ptL s (gd s 0 % 64 - 55) 1 0 with
        | none => intro h; cases h
        | some n =>
          intro h hz
          have h : 1 + (gd s 0 % 64 - 55) + n ≤ s.length := of_decide_eq_true h
          have hz : 1 + (gd s 0 % 64 - 55) + n ≤ z := hz
          rw [if_neg (by omega), if_neg h1, if_neg h2, ptL_take hs _ _ _ (by omega), hp]
          show (⟨_, _, _, _⟩ : Pt) = ⟨_, _, _, _⟩
          rw [decide_eq_true h, decide_eq_true hz]
theorem cut_cut {s : List Nat} {i to e : Nat} (h : i + e ≤ to) : (cut s i to).take e = cut s i (i + e) := by
  unfold cut
  rw [List.take_drop, List.take_take, Nat.min_eq_left h]
/-- of each piece the first form is the piece -/
theorem psGo_ok {s : List Nat} {to : Nat} (ht : to ≤ s.length) : ∀ (f i : Nat) (ps : List (Nat × Nat)), psGo s to f i = some ps → ∀ p ∈ ps, i ≤ p.1 ∧ p.1 < p.2 ∧ p.2 ≤ to ∧ (ptF (cut s p.1 p.2)).ok = true ∧ (ptF (cut s p.1 p.2)).e = p.2 - p.1
  | 0, i, ps, h => by rw [psGo] at h; cases h; intro p hp; cases hp
  | f + 1, i, ps, h => by
    rw [psGo] at h
    split at h
    · rename_i hi
      split at h
      · rename_i ho
        obtain ⟨e1, e2⟩ := ptF_ok ho
        rw [cut_len ht] at e2
        cases hr : psGo s to f (i + (ptF (cut s i to)).e) with
        | none => rw [hr] at h; cases h
        | some l =>
          rw [hr] at h
          cases h
          intro p hp
          rcases List.mem_cons.1 hp with rfl | hp
          · have e3 : ptF (cut s i (i + (ptF (cut s i to)).e)) = ptF (cut s i to) := by
              rw [← cut_cut (to := to) (by omega)]
              exact ptF_take ho (Nat.le_refl _) (by rw [cut_len ht]; exact e2)
            refine ⟨Nat.le_refl _, by show i < i + _; omega, by show i + _ ≤ to; omega, ?_, ?_⟩
            · show (ptF (cut s i (i + (ptF (cut s i to)).e))).ok = true
              rw [e3]; exact ho
            · show (ptF (cut s i (i + (ptF (cut s i to)).e))).e = i + (ptF (cut s i to)).e - i
              rw [e3]; omega
          · obtain ⟨q1, q2, q3, q4⟩ := psGo_ok ht f _ l hr p hp
            exact ⟨by omega, q2, q3, q4⟩
      · cases h
    · cases h; intro p hp; cases hp
theorem ptF_a {s : List Nat} (h : (ptF s).ok = true) (hl : (ptF s).l = true) : 1 ≤ (ptF s).a := by
  revert h hl
  unfold ptF ptZ
  split
  · intro h; cases h
  · split
    · intro _ h; cases h
    · split
      · intro _ _; exact Nat.le_refl _
      · split
        · intro h; cases h
        · intro _ _; show 1 ≤ 1 + _; omega
/-- the pieces of a list -/
theorem prts_ok {s : List Nat} {ps : List (Nat × Nat)} (h : prts s = some ps) : ∀ p ∈ ps, 1 ≤ p.1 ∧ p.1 < p.2 ∧ p.2 ≤ s.length ∧ (ptF (cut s p.1 p.2)).ok = true ∧ (ptF (cut s p.1 p.2)).e = p.2 - p.1 := by
  unfold prts at h
  split at h
  · rename_i hh
    have ha := ptF_a hh.1 hh.2.1
    intro p hp
    obtain ⟨q1, q2, q3, q4⟩ := psGo_ok (Nat.le_refl _) _ _ ps h p hp
    exact ⟨by omega, q2, q3, q4⟩
  · cases h

/-! ### loose -/
def ctS (s : List Nat) : List Nat := cut s (ptF s).a (ptF s).e
def ctI (s : List Nat) : Bool := (ptF s).ok && !(ptF s).l
def rfO (s : List Nat) : Option Rf :=
  if ctI s then (if (ctS s).length = 0 then some rz else if (ctS s).length = 32 then some ⟨1, ctS s, []⟩ else none)
  else if s.length < 32 then some ⟨2, z32, s⟩ else none
def rfs : List (List Nat) → Option (List Rf)
  | [] => some []
  | x :: xs => match rfO x with
    | none => none
    | some r => match rfs xs with
      | none => none
      | some l => some (r :: l)
def lzB (l : List (List Nat)) : Option Nd :=
  match rfs (l.take 16) with
  | none => none
  | some ks => if ctI (l.getD 16 []) then some ⟨3, [], ctS (l.getD 16 []), decide (0 < (ctS (l.getD 16 [])).length), rz, ks⟩ else none
def lzT (a b : List Nat) : Option Nd :=
  if ctI a then
    (if uqF (ctS a) then (if ctI b then some ⟨1, uqP (ctS a), ctS b, false, rz, kz⟩ else none)
    else match rfO b with
      | none => none
      | some r => some ⟨2, uqP (ctS a), [], false, r, kz⟩)
  else none
def lzP (l : List (List Nat)) : Option Nd :=
  if l.length = 17 then lzB l else if l.length = 2 then lzT (l.getD 0 []) (l.getD 1 []) else none
def pcs (s : List Nat) (ps : List (Nat × Nat)) : List (List Nat) := ps.map (fun p => cut s p.1 p.2)
def lzN (s : List Nat) : Option Nd := match prts s with | none => none | some ps => lzP (pcs s ps)

theorem ctS_mem {s : List Nat} {x : Nat} (h : x ∈ ctS s) : x ∈ s := cut_mem h
theorem rfO_ok {s : List Nat} {r : Rf} (hs : ∀ x ∈ s, x < 256) (h : rfO s = some r) : r.W ∧ r.b.length < 32 ∧ (r.b = [] ∨ r.b = s) := by
  unfold rfO at h
  split at h
  · split at h
    · cases h; exact ⟨rz_w, by simp [rz], Or.inl rfl⟩
    · split at h
      · cases h
        exact ⟨⟨by assumption, fun x hx => hs x (ctS_mem hx), fun x hx => by cases hx⟩, by simp, Or.inl rfl⟩
      · cases h
  · split at h
    · cases h
      exact ⟨⟨z32_len, z32_lt, hs⟩, by assumption, Or.inr rfl⟩
    · cases h
theorem rfs_ok {xs : List (List Nat)} : ∀ {l : List Rf}, rfs xs = some l → l.length = xs.length ∧ ∀ r ∈ l, ∃ x ∈ xs, rfO x = some r := by
  induction xs with
  | nil => intro l h; rw [rfs] at h; cases h; exact ⟨rfl, fun r hr => by cases hr⟩
  | cons a t ih =>
    intro l h
    rw [rfs] at h
    cases ha : rfO a with
    | none => rw [ha] at h; cases h
    | some r =>
      rw [ha] at h
      cases ht : rfs t with
      | none => rw [ht] at h; cases h
      | some l' =>
        rw [ht] at h
        cases h
        obtain ⟨h1, h2⟩ := ih ht
        refine ⟨by simp [h1], fun q hq => ?_⟩
        rcases List.mem_cons.1 hq with rfl | hq
        · exact ⟨a, by simp, ha⟩
        · obtain ⟨x, hx, e⟩ := h2 q hq
          exact ⟨x, by simp [hx], e⟩
theorem uqP_lt {s : List Nat} (hs : ∀ x ∈ s, x < 256) : ∀ x ∈ uqP s, x < 256 := fun x hx => by
  unfold uqP at hx
  split at hx
  · cases hx
  · have := nbL_lt hs x (cut_mem hx)
    omega
theorem kz_w' : ∀ r ∈ kz, r.W := fun _ hr => (kz_eq hr) ▸ rz_w
/-- a node that was read loosely -/
theorem lzP_ok {m : Nat} {l : List (List Nat)} {n : Nd} (hl : ∀ x ∈ l, x.length < m ∧ ∀ y ∈ x, y < 256) (hm : 0 < m) (h : lzP l = some n) : n.W ∧ n.next.b.length < m ∧ ∀ r ∈ n.kids, r.b.length < m := by
  have rb : ∀ {x : List Nat} {r : Rf}, x ∈ l → rfO x = some r → r.W ∧ r.b.length < m := fun hx hr => by
    obtain ⟨q1, q2, q3⟩ := rfO_ok (hl _ hx).2 hr
    refine ⟨q1, ?_⟩
    rcases q3 with e | e
    · rw [e]; exact hm
    · rw [e]; exact (hl _ hx).1
  have kzb : ∀ r ∈ kz, r.b.length < m := fun r hr => by rw [kz_eq hr]; exact hm
  unfold lzP at h
  split at h
  · rename_i h17
    unfold lzB at h
    cases hr : rfs (l.take 16) with
    | none => rw [hr] at h; cases h
    | some ks =>
      rw [hr] at h
      dsimp only at h
      split at h
      · cases h
        obtain ⟨k1, k2⟩ := rfs_ok hr
        have kk : ∀ r ∈ ks, r.W ∧ r.b.length < m := fun r hr => by
          obtain ⟨x, hx, e⟩ := k2 r hr
          exact rb (List.mem_of_mem_take hx) e
        have hv : l.getD 16 [] ∈ l := by
          rw [List.getD_eq_getElem?_getD, List.getElem?_eq_getElem (by omega)]
          exact List.getElem_mem _
        exact ⟨⟨by rw [k1]; simp; omega, rz_w, fun r hr => (kk r hr).1, (by intro x hx; cases hx), fun x hx => (hl _ hv).2 x (ctS_mem hx)⟩, hm, fun r hr => (kk r hr).2⟩
      · cases h
  · split at h
    · rename_i h2
      have ha : l.getD 0 [] ∈ l := by
        rw [List.getD_eq_getElem?_getD, List.getElem?_eq_getElem (by omega)]
        exact List.getElem_mem _
      have hb : l.getD 1 [] ∈ l := by
        rw [List.getD_eq_getElem?_getD, List.getElem?_eq_getElem (by omega)]
        exact List.getElem_mem _
      have hp : ∀ x ∈ uqP (ctS (l.getD 0 [])), x < 256 := uqP_lt (fun x hx => (hl _ ha).2 x (ctS_mem hx))
      unfold lzT at h
      split at h
      · split at h
        · split at h
          · cases h
            exact ⟨⟨kz_len, rz_w, kz_w', hp, fun x hx => (hl _ hb).2 x (ctS_mem hx)⟩, hm, kzb⟩
          · cases h
        · cases hr : rfO (l.getD 1 []) with
          | none => rw [hr] at h; cases h
          | some r =>
            rw [hr] at h
            cases h
            exact ⟨⟨kz_len, (rb hb hr).1, kz_w', hp, (by intro x hx; cases hx)⟩, (rb hb hr).2, kzb⟩
      · cases h
    · cases h
theorem lzN_ok {s : List Nat} {n : Nd} (hs : ∀ x ∈ s, x < 256) (h : lzN s = some n) : n.W ∧ n.next.b.length < s.length ∧ ∀ r ∈ n.kids, r.b.length < s.length := by
  unfold lzN at h
  cases hp : prts s with
  | none => rw [hp] at h; cases h
  | some ps =>
    rw [hp] at h
    have k := prts_ok hp
    have hm : 0 < s.length := by
      cases s with
      | nil =>
        unfold prts at hp
        rw [if_neg (by intro q; exact absurd q.1 (by decide))] at hp
        cases hp
      | cons a t => simp
    refine lzP_ok (fun x hx => ?_) hm h
    obtain ⟨p, hp', rfl⟩ := List.mem_map.1 hx
    obtain ⟨k1, k2, k3, -⟩ := k p hp'
    exact ⟨by rw [cut_len k3]; omega, fun y hy => hs y (cut_mem hy)⟩

/-! ### what was written is read -/
theorem digs_small {n : Nat} (h0 : 0 < n) (h : n < 256) : digs n = [n] := by
  rw [digs_pos h0, Nat.div_eq_of_lt h, digs_zero, Nat.mod_eq_of_lt h]; rfl
theorem digs_mid {n : Nat} (h0 : 256 ≤ n) (h : n < 65536) : digs n = [n / 256, n % 256] := by
  rw [digs_pos (by omega), digs_small (by omega) (by omega)]; rfl
/-- a header, and what stands behind it -/
theorem ptF_hdr (li : Bool) (n : Nat) (t : List Nat) (hn : n < 65536) (ht : n ≤ t.length) : ptF (hdr (if li then 192 else 128) n ++ t) = ⟨li, (hdr (if li then 192 else 128) n).length, (hdr (if li then 192 else 128) n).length + n, true⟩ := by
  obtain ⟨B, eB⟩ : ∃ B, B = (if li then 192 else 128) := ⟨_, rfl⟩
  rw [← eB]
  have hB : B = 128 ∨ B = 192 := by rw [eB]; cases li <;> simp
  have hli : li = decide (192 ≤ B) := by rw [eB]; cases li <;> simp
  by_cases h1 : n < 56
  · have e : hdr B n = [B + n] := by unfold hdr; rw [if_pos h1]
    rw [e]
    unfold ptF
    have eg : gd ([B + n] ++ t) 0 = B + n := rfl
    have el : ([B + n] ++ t).length = 1 + t.length := by simp; omega
    rw [eg, el, if_neg (by omega), if_neg (by omega)]
    have em : (B + n) % 64 = n := by omega
    rw [em, if_pos h1, decide_eq_true (by omega : 1 + n ≤ 1 + t.length)]
    have : decide (192 ≤ B + n) = li := by rw [hli]; rcases hB with q | q <;> subst q <;> simp <;> omega
    rw [this]
    rfl
  · by_cases h2 : n < 256
    · have e : hdr B n = [B + 56, n] := by unfold hdr; rw [if_neg h1, digs_small (by omega) h2]; rfl
      rw [e]
      unfold ptF
      have eg : gd ([B + 56, n] ++ t) 0 = B + 56 := rfl
      have eg1 : gd ([B + 56, n] ++ t) 1 = n := rfl
      have el : ([B + 56, n] ++ t).length = 2 + t.length := by simp; omega
      have em : (B + 56) % 64 = 56 := by omega
      rw [eg, el, em, if_neg (by omega), if_neg (by omega), if_neg (by omega), show 56 - 55 = 1 from rfl, ptL, el, if_neg (by omega), ptL, eg1]
      have : decide (192 ≤ B + 56) = li := by rw [hli]; rcases hB with q | q <;> subst q <;> simp
      show (⟨decide (192 ≤ B + 56), 1 + 1, 1 + 1 + (256 * 0 + n), decide (1 + 1 + (256 * 0 + n) ≤ 2 + t.length)⟩ : Pt) = _
      rw [this, decide_eq_true (by omega)]
      simp
    · have e : hdr B n = [B + 57, n / 256, n % 256] := by unfold hdr; rw [if_neg h1, digs_mid (by omega) hn]; rfl
      rw [e]
      unfold ptF
      have eg : gd ([B + 57, n / 256, n % 256] ++ t) 0 = B + 57 := rfl
      have eg1 : gd ([B + 57, n / 256, n % 256] ++ t) 1 = n / 256 := rfl
      have eg2 : gd ([B + 57, n / 256, n % 256] ++ t) (1 + 1) = n % 256 := rfl
      have el : ([B + 57, n / 256, n % 256] ++ t).length = 3 + t.length := by simp; omega
      have em : (B + 57) % 64 = 57 := by omega
      rw [eg, el, em, if_neg (by omega), if_neg (by omega), if_neg (by omega), show 57 - 55 = 1 + 1 from rfl, ptL, el, if_neg (by omega), ptL, el, if_neg (by omega), ptL, eg1, eg2]
      have : decide (192 ≤ B + 57) = li := by rw [hli]; rcases hB with q | q <;> subst q <;> simp
      show (⟨decide (192 ≤ B + 57), 1 + (1 + 1), 1 + (1 + 1) + (256 * (256 * 0 + n / 256) + n % 256), decide (1 + (1 + 1) + (256 * (256 * 0 + n / 256) + n % 256) ≤ 3 + t.length)⟩ : Pt) = _
      have e3 : 256 * (256 * 0 + n / 256) + n % 256 = n := by omega
      rw [this, e3, decide_eq_true (by omega)]
      simp
/-- a form, and what stands behind it -/
theorem ptF_form {x : It} (hm : may x = true) (hl : (form x).length < 65536) (t : List Nat) :
    (ptF (form x ++ t)).ok = true ∧ (ptF (form x ++ t)).e = (form x).length ∧ (ptF (form x ++ t)).l = x.l ∧
    (x.l = false → cut (form x ++ t) (ptF (form x ++ t)).a (ptF (form x ++ t)).e = x.b) ∧ (x.l = true → (ptF (form x ++ t)).a = (hdr 192 (forms x.xs).length).length) := by
  cases q : x.l with
  | true =>
    have e := lst_of_it hm q
    have ef : form x = hdr 192 (forms x.xs).length ++ forms x.xs := by rw [e, form_mk, if_pos rfl]; rfl
    rw [ef, List.length_append] at hl
    have k := ptF_hdr true (forms x.xs).length (forms x.xs ++ t) (by omega) (by simp)
    simp only [if_true] at k
    rw [ef, List.append_assoc, k]
    exact ⟨rfl, by rw [List.length_append], rfl, (by intro h; cases h), fun _ => rfl⟩
  | false =>
    have e := str_of hm q
    by_cases ha : alone x.b = true
    · have ef : form x = x.b := by rw [e]; exact sF_alone ha
      have hb : x.b.length = 1 ∧ gd x.b 0 < 128 := by simpa [alone] using ha
      have e1 : x.b = [gd x.b 0] := by
        match x.b, hb.1 with
        | [y], _ => rfl
      generalize gd x.b 0 = y at *
      have k : ptF ([y] ++ t) = ⟨false, 0, 1, true⟩ := by
        unfold ptF
        have eg : gd ([y] ++ t) 0 = y := rfl
        have el : ([y] ++ t).length = 1 + t.length := by simp; omega
        rw [eg, el, if_neg (by omega), if_pos hb.2]
      rw [ef, e1, k]
      exact ⟨rfl, rfl, rfl, fun _ => rfl, (by intro h; cases h)⟩
    · have ef : form x = hdr 128 x.b.length ++ x.b := by rw [e]; exact sF_head ha
      rw [ef, List.length_append] at hl
      have k := ptF_hdr false x.b.length (x.b ++ t) (by omega) (by simp)
      simp only [Bool.false_eq_true, if_false] at k
      rw [ef, List.append_assoc, k]
      refine ⟨rfl, by rw [List.length_append], rfl, fun _ => ?_, (by intro h; cases h)⟩
      show cut (hdr 128 x.b.length ++ (x.b ++ t)) (hdr 128 x.b.length).length ((hdr 128 x.b.length).length + x.b.length) = x.b
      unfold cut
      rw [List.take_length_add_append, List.take_left' rfl, List.drop_left' rfl]
theorem ct_form {x : It} (hm : may x = true) (hl : (form x).length < 65536) : ctI (form x) = !x.l ∧ (x.l = false → ctS (form x) = x.b) := by
  obtain ⟨h1, h2, h3, h4, -⟩ := ptF_form hm hl []
  rw [List.append_nil] at h1 h2 h3 h4
  exact ⟨by unfold ctI; rw [h1, h3]; rfl, h4⟩
theorem psGo_forms {s : List Nat} : ∀ (xs : List It) (f i : Nat), cut s i s.length = forms xs → i ≤ s.length → s.length < 65536 → (∀ x ∈ xs, may x = true) → s.length - i ≤ f →
    ∃ ps, psGo s s.length f i = some ps ∧ pcs s ps = xs.map form
  | [], f, i, h, hi, _, _, _ => by
    have : s.length - i = 0 := by rw [← cut_len (s := s) (a := i) (e := s.length) (Nat.le_refl _), h, forms_nil]; rfl
    cases f with
    | zero => exact ⟨[], rfl, rfl⟩
    | succ f => rw [psGo, if_neg (by omega)]; exact ⟨[], rfl, rfl⟩
  | x :: xs, f, i, h, hi, hs, hm, hf => by
    have hlen : s.length - i = (form x).length + (forms xs).length := by rw [← cut_len (s := s) (a := i) (e := s.length) (Nat.le_refl _), h, forms_cons, List.length_append]
    have hp := form_pos x
    cases f with
    | zero => omega
    | succ f =>
      obtain ⟨p1, p2, -, -, -⟩ := ptF_form (hm x (by simp)) (by omega) (forms xs)
      rw [psGo, if_pos (by omega), h, forms_cons, if_pos p1, p2]
      have e1 : cut s i (i + (form x).length) = form x := by
        rw [← cut_cut (to := s.length) (by omega), h, forms_cons, List.take_left' rfl]
      have e2 : cut s (i + (form x).length) s.length = forms xs := by
        have e3 : cut s (i + (form x).length) s.length = (cut s i s.length).drop (form x).length := by
          unfold cut
          rw [List.drop_drop]
        rw [e3, h, forms_cons, List.drop_left' rfl]
      obtain ⟨ps, h1, h2⟩ := psGo_forms xs f (i + (form x).length) e2 (by omega) hs (fun y hy => hm y (by simp [hy])) (by omega)
      refine ⟨(i, i + (form x).length) :: ps, by rw [h1]; rfl, ?_⟩
      show cut s i (i + (form x).length) :: pcs s ps = _
      rw [e1, h2]
      rfl
theorem prts_form {xs : List It} (hm : may (.mk true [] xs) = true) (hl : (form (.mk true [] xs)).length < 65536) :
    ∃ ps, prts (form (.mk true [] xs)) = some ps ∧ pcs (form (.mk true [] xs)) ps = xs.map form := by
  obtain ⟨h1, h2, h3, -, h5⟩ := ptF_form hm hl []
  rw [List.append_nil] at h1 h2 h3 h5
  have h5 := h5 rfl
  have ef : form (.mk true [] xs) = hdr 192 (forms xs).length ++ forms xs := by rw [form_mk, if_pos rfl]
  unfold prts
  rw [if_pos ⟨h1, h3, h2⟩, h5]
  refine psGo_forms xs _ _ ?_ ?_ hl (fun x hx => may_sub rfl hx hm) (by omega)
  · show cut _ (hdr 192 (forms xs).length).length _ = forms xs
    unfold cut
    rw [List.take_length, ef, List.drop_left' rfl]
  · show (hdr 192 (forms xs).length).length ≤ _
    rw [ef, List.length_append]; omega
theorem rfO_form {x : It} (hm : may x = true) (hd : dp x ≤ 80) (hl : (form x).length < 65536) (h32 : x.l = true → (form x).length < 32) : rfO (form x) = itR x := by
  obtain ⟨c1, c2⟩ := ct_form hm hl
  unfold rfO itR
  cases q : x.l with
  | true =>
    rw [c1, q, if_neg (by simp), if_pos (h32 q), if_pos rfl, (enc_ok hm hd (by omega)).2]
  | false =>
    rw [c1, q, if_pos (show (!false) = true from rfl), c2 q]
    simp only [Bool.false_eq_true, if_false]
theorem rfs_forms {xs : List It} (h : ∀ x ∈ xs, rfO (form x) = itR x) : rfs (xs.map form) = itRs xs := by
  induction xs with
  | nil => rfl
  | cons a t ih =>
    rw [List.map_cons, rfs, itRs, h a (by simp), ih (fun x hx => h x (by simp [hx]))]
    cases itR a with
    | none => rfl
    | some r => cases itRs t <;> rfl
/-- a path's bytes, read loosely -/
theorem uq_of_up {b : List Nat} (h : IsF b) : uqP b = upL b ∧ uqF b = lf b := by
  obtain ⟨h0, h1, h2, h3⟩ := h
  have ho : od b < 2 := Nat.mod_lt _ (by decide)
  have hk : uqK b = 2 - od b := by
    unfold uqK
    show (if od b = 1 then 1 else 2) = 2 - od b
    split <;> omega
  refine ⟨?_, ?_⟩
  · unfold uqP
    rw [if_neg (by omega), hk]
    have hn : (nbL b).length = 2 * b.length := by unfold nbL; rw [lst_len]
    refine ext_gd ?_ (fun i hi => ?_)
    · rw [cut_len (by omega)]
      unfold upL plen
      rw [lst_len]
      omega
    · rw [cut_len (by omega)] at hi
      rw [cut_gd (by omega)]
      unfold nbL upL
      rw [lst_gd (by omega), lst_gd (by unfold plen; omega)]
      unfold nbY upY nib
      rw [Nat.add_comm i]
  · unfold uqF lf
    rw [decide_eq_true h0, Bool.true_and]
    by_cases q : 32 ≤ gd b 0
    · rw [decide_eq_true q, decide_eq_true (by omega)]
    · rw [decide_eq_false q, decide_eq_false (by omega)]
theorem uq_of_pk (leaf : Bool) {s : List Nat} (h : IsP s) : uqP (pkR leaf s) = s ∧ uqF (pkR leaf s) = leaf := by
  obtain ⟨h1, h2, h3⟩ := pk_up leaf h
  unfold pkR
  rw [if_pos h]
  obtain ⟨q1, q2⟩ := uq_of_up h1
  exact ⟨q1.trans h2, q2.trans h3⟩
theorem ri32 {r : Rf} (hw : r.W) (h : isRf KD r = true ∨ isNx KD r = true) : (rIt r).l = true → (form (rIt r)).length < 32 := by
  intro hl
  by_cases k2 : r.k = 2
  · have hb : r.h = z32 ∧ KD r.b ≠ 0 := by
      rcases h with h | h
      · unfold isRf at h
        rw [if_neg (by omega), if_neg (by omega), if_pos k2] at h
        simpa using h
      · unfold isNx at h
        rw [if_pos k2] at h
        simp at h
        exact ⟨h.1, by rw [h.2]; decide⟩
    obtain ⟨-, q2, -, q4⟩ := ri_node hw k2 hb.1 hb.2
    rw [q2]; exact q4
  · unfold rIt at hl
    rw [if_neg k2] at hl
    split at hl <;> cases hl
/-- THE ENCODING OF A NODE IS READ AS THAT NODE -/
theorem lzN_enc {n : Nd} (hw : n.W) (hm : mayN KD n = true) : lzN (encN n) = some n := by
  have ni := ni_may hw hm
  have back := ni.back
  have hlen := ni.len
  have may1 := ni.may
  have strC : ∀ b, (form (.mk false b [])).length < 65536 → ctI (form (.mk false b [])) = true ∧ ctS (form (.mk false b [])) = b := fun b hb => by
    obtain ⟨c1, c2⟩ := ct_form (may_str b) hb
    exact ⟨by rw [c1]; rfl, c2 rfl⟩
  unfold mayN at hm
  unfold lzN encN
  split at hm
  · rename_i hk
    simp only [Bool.and_eq_true, Bool.not_eq_true', decide_eq_true_eq] at hm
    obtain ⟨he, hp, hf, hn⟩ := hm
    have e : nIt n = .mk true [] [.mk false (pkR true n.path) [], .mk false n.val []] := by unfold nIt; rw [if_pos hk]
    rw [e] at back hlen may1 ⊢
    obtain ⟨ps, h1, h2⟩ := prts_form may1 (by omega)
    rw [h1]
    dsimp only
    rw [h2]
    have s1 := form_sub (b := []) rfl (show It.mk false (pkR true n.path) [] ∈ [It.mk false (pkR true n.path) [], It.mk false n.val []] by simp)
    have s2 := form_sub (b := []) rfl (show It.mk false n.val [] ∈ [It.mk false (pkR true n.path) [], It.mk false n.val []] by simp)
    obtain ⟨a1, a2⟩ := strC (pkR true n.path) (by omega)
    obtain ⟨b1, b2⟩ := strC n.val (by omega)
    obtain ⟨u1, u2⟩ := uq_of_pk true hp
    show lzT (form (.mk false (pkR true n.path) [])) (form (.mk false n.val [])) = some n
    unfold lzT
    rw [if_pos a1, a2, if_pos u2, if_pos b1, b2, u1]
    have : itP (.mk false (pkR true n.path) []) (.mk false n.val []) = some n := back
    obtain ⟨v1, v2, v3⟩ := up_of_pk true hp
    unfold itP at this
    rw [if_pos (show upE (It.mk false (pkR true n.path) []).b = 0 from v1), if_pos (show upI (It.mk false (pkR true n.path) []).b = true from v2), if_neg (show ¬ (It.mk false n.val []).l = true by show ¬ false = true; simp)] at this
    rw [← this]
    show some (⟨1, n.path, n.val, false, rz, kz⟩ : Nd) = some (⟨1, upR (pkR true n.path), n.val, false, rz, kz⟩ : Nd)
    rw [v3]
  · split at hm
    · rename_i hk
      simp only [Bool.and_eq_true, Bool.not_eq_true', decide_eq_true_eq] at hm
      obtain ⟨he, hp, hf, hn⟩ := hm
      unfold leads at he
      simp only [Bool.and_eq_true, decide_eq_true_eq] at he
      obtain ⟨hp0, hv0, hx⟩ := he
      have ri := ri_next hw.next hx
      have e : nIt n = .mk true [] [.mk false (pkR false n.path) [], rIt n.next] := by unfold nIt; rw [if_neg (by omega), if_pos hk]
      rw [e] at back hlen may1 ⊢
      obtain ⟨ps, h1, h2⟩ := prts_form may1 (by omega)
      rw [h1]
      dsimp only
      rw [h2]
      have s1 := form_sub (b := []) rfl (show It.mk false (pkR false n.path) [] ∈ [It.mk false (pkR false n.path) [], rIt n.next] by simp)
      obtain ⟨a1, a2⟩ := strC (pkR false n.path) (by omega)
      obtain ⟨u1, u2⟩ := uq_of_pk false hp
      have hr := rfO_form ri.may (by have := ri.dp; omega) (by have := ri.len; omega) (ri32 hw.next (Or.inr hx))
      show lzT (form (.mk false (pkR false n.path) [])) (form (rIt n.next)) = some n
      unfold lzT
      rw [if_pos a1, a2, if_neg (by rw [u2]; simp), hr, ri.back, u1]
      have : itP (.mk false (pkR false n.path) []) (rIt n.next) = some n := back
      obtain ⟨v1, v2, v3⟩ := up_of_pk false hp
      unfold itP at this
      rw [if_pos (show upE (It.mk false (pkR false n.path) []).b = 0 from v1), if_neg (by rw [show upI (It.mk false (pkR false n.path) []).b = false from v2]; simp), ri.back] at this
      rw [← this]
      show some (⟨2, n.path, [], false, n.next, kz⟩ : Nd) = some (⟨2, upR (pkR false n.path), [], false, n.next, kz⟩ : Nd)
      rw [v3]
    · split at hm
      · rename_i hk
        simp only [Bool.and_eq_true, decide_eq_true_eq] at hm
        obtain ⟨hp, hno, hfd⟩ := hm
        unfold isFd at hfd
        rw [Bool.and_eq_true, List.all_eq_true] at hfd
        obtain ⟨hkr, hfd⟩ := hfd
        have ri : ∀ r ∈ n.kids, RI r := fun r hr => ri_ref (hw.kid r hr) (hkr r hr)
        have e : nIt n = .mk true [] (n.kids.map rIt ++ [.mk false n.val []]) := by unfold nIt; rw [if_neg (by omega), if_neg (by omega)]
        rw [e] at back hlen may1 ⊢
        obtain ⟨ps, h1, h2⟩ := prts_form may1 (by omega)
        rw [h1]
        dsimp only
        rw [h2]
        have s2 := form_sub (b := []) rfl (show It.mk false n.val [] ∈ n.kids.map rIt ++ [It.mk false n.val []] by simp)
        obtain ⟨b1, b2⟩ := strC n.val (by omega)
        have hlen1 : (n.kids.map rIt).length = 16 := by rw [List.length_map, hw.kids]
        have hlen2 : (n.kids.map rIt ++ [It.mk false n.val []]).length = 17 := by rw [List.length_append, hlen1]; rfl
        have hrs : rfs ((n.kids.map rIt).map form) = some n.kids := by
          rw [rfs_forms (fun x hx => by
            obtain ⟨r, hr, rfl⟩ := List.mem_map.1 hx
            exact rfO_form (ri r hr).may (by have := (ri r hr).dp; omega) (by have := (ri r hr).len; omega) (ri32 (hw.kid r hr) (Or.inl (hkr r hr)))), itRs_map (fun r hr => (ri r hr).back)]
        unfold lzP
        rw [List.length_map, hlen2, if_pos rfl]
        unfold lzB
        have g16 : ((n.kids.map rIt ++ [It.mk false n.val []]).map form).getD 16 [] = form (.mk false n.val []) := by
          rw [List.map_append, List.getD_eq_getElem?_getD, List.getElem?_append_right (by rw [List.length_map, hlen1]; omega), List.length_map, hlen1]
          rfl
        have t16 : ((n.kids.map rIt ++ [It.mk false n.val []]).map form).take 16 = (n.kids.map rIt).map form := by
          rw [List.map_append, List.take_left' (by rw [List.length_map, hlen1])]
        rw [t16, hrs, g16, b1, b2]
        dsimp only
        rw [if_pos rfl]
        unfold itN at back
        have back : (if (n.kids.map rIt ++ [It.mk false n.val []]).length = 2 then _ else if (n.kids.map rIt ++ [It.mk false n.val []]).length = 17 then itB ((n.kids.map rIt ++ [It.mk false n.val []]).take 16) ((n.kids.map rIt ++ [It.mk false n.val []]).getD 16 itE) else none) = some n := back
        rw [hlen2, if_neg (by decide), if_pos rfl, List.take_left' hlen1, List.getD_eq_getElem?_getD, List.getElem?_append_right (by omega), hlen1] at back
        have back : itB (n.kids.map rIt) (.mk false n.val []) = some n := back
        unfold itB at back
        rw [itRs_map (fun r hr => (ri r hr).back)] at back
        exact back
      · cases hm
/-- WHAT THE REFERENCE READS IS WHAT THE DOCUMENT SAYS -/
def rdN (s : List Nat) : Option Nd := match lzN s with | none => none | some n => if mayN KD n = true ∧ encN n = s then some n else none
theorem rdN_eq {s : List Nat} (hs : ∀ x ∈ s, x < 256) : rdN s = decN KD s := by
  unfold rdN
  cases hd : decN KD s with
  | some n =>
    obtain ⟨h1, h2, h3⟩ := (decN_iff hs).1 hd
    have := lzN_enc h1 h2
    rw [h3] at this
    rw [this]
    dsimp only
    rw [if_pos ⟨h2, h3⟩]
  | none =>
    cases hl : lzN s with
    | none => rfl
    | some n =>
      dsimp only
      rw [if_neg]
      rintro ⟨h2, h3⟩
      have := (decN_iff hs).2 ⟨(lzN_ok hs hl).1, h2, h3⟩
      rw [hd] at this
      cases this
end Go.Proofs.YtepeolbbplodfaaGreatDoor
