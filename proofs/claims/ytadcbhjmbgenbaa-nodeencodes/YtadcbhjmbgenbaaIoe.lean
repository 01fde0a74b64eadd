import Derived.Test.YtadcbhjmbgenbaaYne
import Derived.Test.YtadcbhjmbgenbaaLfe
import Derived.Deep.RegionHeld3
/-
  cairnref07: unpacked.
-/
namespace Go.Proofs.Ytadcbhjmbgenbaa
open Go.RowKit

theorem u8_quo (x : Int) (h0 : 0 ≤ x) (h1 : x ≤ 255) : IntKind.u8.wrap (x.tdiv 16) = x / 16 := by
  rw [Int.tdiv_eq_ediv_of_nonneg h0]
  simp [IntKind.wrap, IntKind.signed, IntKind.bits]
  omega
theorem u8_rem (x : Int) (h0 : 0 ≤ x) (_ : x ≤ 255) : IntKind.u8.wrap (x.tmod 16) = x % 16 := by
  rw [Int.tmod_eq_emod_of_nonneg h0]
  simp [IntKind.wrap, IntKind.signed, IntKind.bits]
  omega
/-- the nibbles of bytes -/
def nibI (Z : Nat → Int) (i : Nat) : Int := if i % 2 = 0 then Z (i / 2) / 16 else Z (i / 2) % 16
/-- the path of bytes, loosely -/
def nbY (s : List Nat) (i : Nat) : Nat := if i % 2 = 0 then gd s (i / 2) / 16 else gd s (i / 2) % 16
def nbL (s : List Nat) : List Nat := lst (2 * s.length) (nbY s)
def uqK (s : List Nat) : Nat := if (gd s 0 / 16) % 2 = 1 then 1 else 2
def uqP (s : List Nat) : List Nat := if s.length = 0 then [] else cut (nbL s) (uqK s) (2 * s.length)
def uqF (s : List Nat) : Bool := decide (0 < s.length) && decide (2 ≤ gd s 0 / 16)
theorem nbL_lt {s : List Nat} (hs : ∀ x ∈ s, x < 256) : ∀ x ∈ nbL s, x < 16 := fun x hx => by
  unfold nbL lst at hx
  obtain ⟨i, hi, rfl⟩ := List.mem_map.1 hx
  have := gd_lt hs (i / 2)
  unfold nbY
  split <;> omega
set_option maxRecDepth 100000 in
set_option maxHeartbeats 1600000 in
theorem runpacked_any {w : World} {v0 : Value} {s : List Nat} (hvb : Vb w v0 s) (hn0 : s.length ≤ 1099511627776) :
    Calls Try.prog 59 #[v0] w fun e w' => ∃ u, e = .returned (.tuple #[u, .bool (uqF s)]) ∧ Vf (fun k => w.heap.size ≤ k) w' u (uqP s) ∧ Below w.heap.size w w' := by
  obtain ⟨a, b, off, c, rfl, hv0, -, -, -⟩ := hvb
  obtain ⟨i0, hi0, hz0, hz1, hz2⟩ := info_parts Try.info5
  have HI0 : Hid (Try.prog.info? 5 = some i0 ∧ i0.zero = some (.int .u8 0) ∧ i0.size = 1 ∧ i0.bytes = 1) := ⟨hi0, hz0, hz1, hz2⟩
  obtain ⟨n, en⟩ : ∃ n, n = s.length := ⟨_, rfl⟩
  have HN : Hid (n = s.length ∧ ∀ x ∈ s, x < 256) := ⟨en, (vw_ok hv0).2⟩
  obtain ⟨Z, eZ⟩ : ∃ Z : Nat → Int, Z = fun i => ((gd s i : Nat) : Int) := ⟨_, rfl⟩
  have HZZ : Hid (∀ i, Z i = ((gd s i : Nat) : Int)) := fun i => by rw [eZ]
  have HV : Hid (View w a b off n Z) := by have q := hv0; unfold Vw at q; rw [← en, ← eZ] at q; exact q
  rw [← en] at hn0 ⊢
  clear hv0 en eZ hi0 hz0 hz1 hz2
  go_enter Try.func59, Try.ntmps59
  go_wp2_with fail
  go_loopg [4, 5] n (fun g v i wr => ∃ k : Nat, k ≤ n ∧ g = n - k ∧ i = .int .i64 k ∧ wr.ownsRow w.heap.size 5 1 v (2 * k) (vals (nibI Z) (2 * k)) ∧ Below w.heap.size w wr)
  case atStart => exact ⟨0, Nat.zero_le _, rfl, rfl, World.ownsRow_nil _ _ _ _, Below.refl _ _⟩
  case round =>
    obtain ⟨k, hk, rfl, rfl, hown, hbel⟩ := hrel
    have hsz := hbel.size
    by_cases hkn : k < n
    · obtain rfl := HV.out.at_ (by omega)
      have hlt := HV.out.lt (by omega)
      have c1 : wr.cell? ⟨b, off + k, none⟩ = some (.int .u8 (Z k)) := (hbel.cell (p := ⟨b, off + k, none⟩) hlt).trans (HV.out.cell k hkn)
      obtain ⟨b1, b2⟩ := HV.out.bd k hkn
      have i1 : (k : Int) < (n : Int) := by omega
      have i0' : (0 : Int) ≤ (k : Int) := by omega
      have q1 := u8_quo (Z k) b1 b2
      have q2 := u8_rem (Z k) b1 b2
      have q5 : (Z k).tmod 16 = Z k % 16 := Int.tmod_eq_emod_of_nonneg b1
      have e1 : nibI Z (2 * k) = Z k / 16 := by unfold nibI; rw [if_pos (by omega), show 2 * k / 2 = k by omega]
      have e2 : nibI Z (2 * k + 1) = Z k % 16 := by unfold nibI; rw [if_neg (by omega), show (2 * k + 1) / 2 = k by omega]
      have hv := vals_two (nibI Z) (2 * k)
      rw [e1, e2] at hv
      have HVT : Hid (vals (nibI Z) (2 * k) ++ [.int .u8 (Z k / 16), .int .u8 (Z k % 16)] = vals (nibI Z) (2 * k + 2)) := hv
      clear hv e1 e2
      have hne : ∀ v, wr.ownsRow w.heap.size 5 1 v (2 * k) (vals (nibI Z) (2 * k)) → v.ownBlock ≠ some b := fun v ho e => by have := (ho.lt b e).1; omega
      have ag := hne _ hown
      clear hne
      go_wp2_with fail
      go_region_held3 (fun w' => w'.cell? ⟨b, off + k, none⟩ = some (.int .u8 (Z k)))
        (first
          | go_keep
          | (rw [hgrow.cell_far _ (by simp; omega) (Ne.symm ag), World.cell?_drew, World.cell?_alloc_old _ _ _ (by show b ≠ wr.heap.size; omega)]; exact c1))
        ((refine step_append_lies _ (by rfl) _ _ _ (by rfl) w.heap.size 5 i0 _ 1 1 Try.underlying22 HI0.out.1 HI0.out.2.1 HI0.out.2.2.1 HI0.out.2.2.2 rfl (by omega) _ (2 * k) _ (by rfl) ((hown.alloc _).drew) ⟨wr.heap.size, 0, none⟩ 2 2 [.int .u8 (Z k / 16), .int .u8 (Z k % 16)] (by rfl) (by rfl) (World.news_of_block (cs := #[.int .u8 (Z k / 16), .int .u8 (Z k % 16)]) (t := 5) (fr := (0, 0)) (heap_alloc_new wr _)) (by simp [Value.oneCell']) (by omega) (by unfold maxLen; omega) (by omega) (by simp; omega) (wr.heap.size + 1) (by simp) ?_; intro gg cap w1 hown1 hgrow hat hlt1))
      have hbel1 : Below w.heap.size w w1 := ((hbel.alloc hsz _).drew).grown hgrow (by simp; omega) (fun j hj => (hown.lt j hj).1)
      rw [HVT.out] at hown1
      clear hgrow hat hlt1 hown
      go_wp2_with fail
      go_roundg (n - (k + 1))
      case measure => omega
      case rel => exact ⟨k + 1, hkn, rfl, by go_num, by rw [show 2 * (k + 1) = 2 * k + 2 by omega]; exact hown1, hbel1⟩
    · have ek : k = n := by omega
      subst ek
      obtain ⟨a4, c4, rfl⟩ := own_slice hown
      have i1 : ¬ (k : Int) < k := by omega
      by_cases h0 : k = 0
      · have HX : Hid (Below w.heap.size w wr ∧ uqF s = false ∧ uqP s = []) := ⟨hbel, by unfold uqF; rw [decide_eq_false (by rw [← HN.out.1]; omega)]; rfl, by unfold uqP; rw [if_pos (by rw [← HN.out.1]; exact h0)]⟩
        subst h0
        clear hown hbel
        go_wp2_with fail
        go_ret2
        rw [HX.out.2.1, HX.out.2.2]
        exact ⟨_, rfl, ⟨none, 0, 0, 0, rfl, ⟨fun h => by simp at h, fun i hi => by simp at hi, fun i hi => by simp at hi, by simp⟩, by simp, fun _ => rfl, by simp, fun h => by simp at h⟩, HX.out.1⟩
      · have hL : (nbL s).length = 2 * k := by unfold nbL; rw [lst_len, ← HN.out.1]
        have hown2 : wr.ownsRow w.heap.size 5 1 (.slice a4 (2 * k) c4) (nbL s).length (bv (nbL s)) := by
          rw [← vals_bv, hL]
          rw [vals_congr (Z := fun i => ((gd (nbL s) i : Nat) : Int)) (fun i hi => ?_)] at hown
          · exact hown
          · unfold nbL
            rw [lst_gd (by rw [← HN.out.1]; exact hi)]
            unfold nibI nbY
            split <;> rw [HZZ.out] <;> omega
        obtain ⟨a5, g5, o5, c5, e5, v5, l5, n5, m5, p5⟩ := vf_of_own (P := fun q => w.heap.size ≤ q) hown2 (fun x hx => by have := nbL_lt HN.out.2 x hx; omega) (by rw [hL]; omega) (fun q hq => (hown2.lt q hq).1)
        injection e5 with z1 z2 z3
        subst z1
        subst z3
        obtain rfl := v5.at_ (by rw [hL]; omega)
        have c0 := v5.cell 0 (by rw [hL]; omega)
        rw [Nat.add_zero] at c0
        have ey : gd (nbL s) 0 = gd s 0 / 16 := by unfold nbL; rw [lst_gd (by rw [← HN.out.1]; omega)]; rfl
        rw [ey] at c0
        have xl := gd_lt HN.out.2 0
        have HK : Hid (∀ K, K ≤ 2 → uqK s = K → Vf (fun q => w.heap.size ≤ q) wr (.slice (behind (some ⟨g5, o5, none⟩) c4 K) (2 * k - K) (c4 - K)) (uqP s)) := fun K h1 h2 => by
          obtain ⟨r1, r2⟩ := vb_cut (l := K) (z := 2 * k) v5 l5 n5 m5 (by omega) (by rw [hL]; exact Nat.le_refl _)
          have e : uqP s = cut (nbL s) K (2 * k) := by unfold uqP; rw [if_neg (by rw [← HN.out.1]; exact h0), h2, ← HN.out.1]
          have el : (cut (nbL s) K (2 * k)).length = 2 * k - K := cut_len (by rw [hL]; exact Nat.le_refl _)
          rw [e]
          exact ⟨_, g5, o5 + K, c4 - K, by rw [el], r1, by rw [el]; rw [hL] at l5; omega, r2, by rw [el]; omega, fun _ => p5 (by rw [hL]; omega)⟩
        have HX : Hid (Below w.heap.size w wr ∧ uqF s = decide (2 ≤ gd s 0 / 16)) := ⟨hbel, by unfold uqF; rw [decide_eq_true (show 0 < s.length by rw [← HN.out.1]; omega)]; rfl⟩
        have HU : Hid (uqK s = if (gd s 0 / 16) % 2 = 1 then 1 else 2) := rfl
        have k0 : ¬ 2 * (k : Int) = 0 := by omega
        have k0b : ((2 * (k : Int)) == 0) = false := by simpa using k0
        have k0c : (0 : Int) < 2 * (k : Int) := by omega
        obtain ⟨y, ey2⟩ : ∃ y, y = gd s 0 / 16 := ⟨_, rfl⟩
        rw [← ey2] at c0 HX HU
        have y16 : y < 16 := by omega
        have jd : decide ((2 : Int) ≤ (y : Int)) = decide (2 ≤ y) := by by_cases q : 2 ≤ y <;> simp [q] <;> omega
        have q7 : (y : Int).tmod 2 = (y : Int) % 2 := Int.tmod_eq_emod_of_nonneg (by omega)
        have q8 : (y : Int) % 2 % 256 = (y : Int) % 2 := by omega
        have sf1 : ∀ w, (Instr.slice 22 (.slice (some ⟨g5, o5, none⟩) (2 * k) c4) (some (.int .i64 1)) none none).run Try.prog w = .ok (.slice (behind (some ⟨g5, o5, none⟩) c4 1) (2 * k - 1) (c4 - 1)) w := slice_from (some ⟨g5, o5, none⟩) (2 * k) c4 1 (by omega)
        obtain ⟨bh1, eb1⟩ : ∃ z, z = behind (some ⟨g5, o5, none⟩) c4 1 := ⟨_, rfl⟩
        rw [← eb1] at sf1
        have sf2 : ∀ w, (Instr.slice 22 (.slice (some ⟨g5, o5, none⟩) (2 * k) c4) (some (.int .i64 2)) none none).run Try.prog w = .ok (.slice (behind (some ⟨g5, o5, none⟩) c4 2) (2 * k - 2) (c4 - 2)) w := slice_from (some ⟨g5, o5, none⟩) (2 * k) c4 2 (by omega)
        obtain ⟨bh2, eb2⟩ : ∃ z, z = behind (some ⟨g5, o5, none⟩) c4 2 := ⟨_, rfl⟩
        rw [← eb2] at sf2
        clear hown hown2 hbel v5 l5 n5 m5 p5 hL ey ey2 xl z2
        by_cases ho : y % 2 = 1
        · have i3 : ((y : Int) % 2 == 1) = true := by simp; omega
          have i3b : (y : Int) % 2 = 1 := by omega
          have HF := HK.out 1 (by omega) (by rw [HU.out, if_pos ho])
          rw [← eb1] at HF
          have HF2 : Hid (Vf (fun q => w.heap.size ≤ q) wr (.slice bh1 (2 * k - 1) (c4 - 1)) (uqP s)) := HF
          clear HF HK HU ho eb1 eb2
          go_wp2_with fail
          go_ret2
          rw [HX.out.2, ← jd]
          exact ⟨_, rfl, HF2.out, HX.out.1⟩
        · have i3 : ((y : Int) % 2 == 1) = false := by simp; omega
          have i3b : ¬ (y : Int) % 2 = 1 := by omega
          have HF := HK.out 2 (by omega) (by rw [HU.out, if_neg ho])
          rw [← eb2] at HF
          have HF2 : Hid (Vf (fun q => w.heap.size ≤ q) wr (.slice bh2 (2 * k - 2) (c4 - 2)) (uqP s)) := HF
          clear HF HK HU ho eb1 eb2
          go_wp2_with fail
          go_ret2
          rw [HX.out.2, ← jd]
          exact ⟨_, rfl, HF2.out, HX.out.1⟩
end Go.Proofs.Ytadcbhjmbgenbaa

/-
  itemOf: leaf and extension.
-/
namespace Go.Proofs.Ytadcbhjmbgenbaa
open Go.RowKit

theorem vb_vf {w : World} {v : Value} {s : List Nat} (h : Vb w v s) : Vf (fun k => k < w.heap.size) w v s := by
  obtain ⟨a, b, off, c, h1, h2, h3, h4, h5⟩ := h
  exact ⟨a, b, off, c, h1, h2, h3, h4, h5, fun h0 => h2.lt h0⟩
theorem Vf.keep {P : Nat → Prop} {w w' : World} {v : Value} {s : List Nat} (h : Vf P w v s) (k : Below w.heap.size w w') : Vf P w' v s := h.same (fun i _ hi => k.block i hi)
theorem Lf.keep {P : Nat → Prop} {w w' : World} {x : It} {vb vi : Value} (h : Lf P w x vb vi) (k : Below w.heap.size w w') : Lf P w' x vb vi := h.same (fun i _ hi => k.block i hi)
/-- what itemOf answers -/
def IoPst (n : Nd) (w : World) (e : Ending) (w' : World) : Prop := ∃ vb vi, e = .returned (iv (nIt n).l vb vi) ∧ Lies Vb w' (nIt n) vb vi ∧ Below w.heap.size w w'
/-- a list of two -/
theorem lf_two {P : Nat → Prop} {w : World} {g c : Nat} {fr : Nat × Nat} {x y : It} {v1 v2 u1 u2 : Value} (hg : w.heap[g]? = some (.cells #[.bool x.l, v1, v2, .bool y.l, u1, u2] 62 fr)) (hP : P g) (hx : Lf P w x v1 v2) (hy : Lf P w y u1 u2) :
    Lf P w (.mk true [] [x, y]) (.slice none 0 0) (.slice (some ⟨g, 0, none⟩) 2 c) := by
  have cc : ∀ j, w.cell? ⟨g, j, none⟩ = #[.bool x.l, v1, v2, .bool y.l, u1, u2][j]? := fun j => cell_of_row _ _ _ _ _ _ hg
  refine .mk (xs := [x, y]) (some ⟨g, 0, none⟩) g 0 c (fun i => if i = 0 then v1 else u1) (fun i => if i = 0 then v2 else u2) (vf_nil P w) (fun _ => rfl) (fun _ => hP) (by simp) (fun i z hz => ?_) (fun i z hz => ?_)
  · match i, hz with
    | 0, hz => simp at hz; subst hz; exact ⟨cc 0, cc 1, cc 2⟩
    | 1, hz => simp at hz; subst hz; exact ⟨cc 3, cc 4, cc 5⟩
    | i + 2, hz => simp at hz
  · match i, hz with
    | 0, hz => simp at hz; subst hz; exact hx
    | 1, hz => simp at hz; subst hz; exact hy
    | i + 2, hz => simp at hz

set_option maxRecDepth 100000 in
set_option maxHeartbeats 3200000 in
theorem itemOf_path {w : World} {n : Nd} {u : Nv} (h : Nin w n u) (hk : n.k = 1 ∨ n.k = 2) : Calls Try.prog 27 #[.agg (nc n u).toArray] w (IoPst n w) := by
  obtain ⟨W0, eW0⟩ : ∃ W, W = w.alloc (.cells (nc n u).toArray 29) := ⟨_, rfl⟩
  obtain ⟨W1, eW1⟩ : ∃ W, W = W0.alloc (.cells #[.bool false, .slice none 0 0, .slice none 0 0] 62) := ⟨_, rfl⟩
  have B0 : Below w.heap.size w W0 := by rw [eW0]; exact below_alloc _ _
  have B1 : Below w.heap.size w W1 := by rw [eW1]; exact ch B0 (below_alloc _ _)
  have s1 : W1.heap.size = w.heap.size + 2 := by rw [eW1, eW0]; simp
  have nb : Nb W1 w.heap.size n u := by rw [eW1]; exact (by rw [eW0]; exact nb_new h.W w u : Nb W0 w.heap.size n u).keep (below_alloc _ _)
  have bx1 : Bx W1 (w.heap.size + 1) 62 (.bool false) (.slice none 0 0) (.slice none 0 0) := by
    have := heap_alloc_new W0 (.cells #[.bool false, .slice none 0 0, .slice none 0 0] 62)
    rw [← eW1, show W0.heap.size = w.heap.size + 1 by rw [eW0]; simp] at this
    exact this
  have K1 := refItem_any h.W.next (Rel.keep h.x B1)
  have hh := h.W.next.1
  have cx := nb.x
  obtain ⟨el, eel⟩ : ∃ l, l = (rIt n.next).l := ⟨_, rfl⟩
  unfold RitPst at K1
  rw [← eel] at K1
  have HEL : Hid (el = (rIt n.next).l) := eel
  have HW : Hid (W0 = w.alloc (.cells (nc n u).toArray 29) ∧ W1 = W0.alloc (.cells #[.bool false, .slice none 0 0, .slice none 0 0] 62)) := ⟨eW0, eW1⟩
  have HH : Hid (Nin w n u ∧ Below w.heap.size w W1 ∧ W1.heap.size = w.heap.size + 2 ∧ Nb W1 w.heap.size n u ∧ Bx W1 (w.heap.size + 1) 62 (.bool false) (.slice none 0 0) (.slice none 0 0)) := ⟨h, B1, s1, nb, bx1⟩
  have HNB : Hid (∀ {w' : World}, Below W1.heap.size W1 w' → Nb w' w.heap.size n u) := fun k => HH.out.2.2.2.1.keep k
  have HBX : Hid (∀ {w' : World}, Below W1.heap.size W1 w' → Bx w' (w.heap.size + 1) 62 (.bool false) (.slice none 0 0) (.slice none 0 0)) := fun k => HH.out.2.2.2.2.keep (k.block _ (by have := HH.out.2.2.1; omega))
  obtain ⟨av, bv', ov, cv, ev, -, -, -, hlv⟩ := h.v
  clear h B0 B1 s1 bx1 eel eW0 eW1 nb
  rcases hk with k1 | k2
  · have HK : Hid (nIt n = .mk true [] [.mk false (pkR true n.path) [], .mk false n.val []]) := by show _ = _; unfold nIt; rw [if_pos k1]
    have KP : Hid (∀ {w' : World}, Below W1.heap.size W1 w' → Calls Try.prog 49 #[u.p, .bool true] w' fun e w'' => ∃ q, e = .returned (.tuple #[q, .int .i64 ((pkE n.path : Nat) : Int)]) ∧ Ans w' w'' q (pkR true n.path)) := fun k => pack_vb true (Rel.keep HH.out.1.p (ch HH.out.2.1 k))
    have EV : Hid (u.v = .slice av n.val.length cv) := ev
    have HK1 : Hid (n.k = 1) := k1
    clear ev k1
    go_enter Try.func27, Try.ntmps27
    go_upto_region 1 with (fail)
    rw [← HW.out.1, ← HW.out.2]
    go_wp2_with (first
      | refine wpList_ld26 (by kernel_rfl) _ (by rfl) _ _ _ _ hh cx (by rfl) ?_
      | (go_at_call 48; refine K1.mono ?_; rintro e w2 ⟨vb, vi, rfl, lf, b2⟩; obtain ⟨a1, n1, k1, a2, n2, k2, rfl, rfl⟩ := lf.lies.form; have HL : Hid (Below W1.heap.size W1 w2 ∧ Lf (fun k => W1.heap.size ≤ k ∧ k < w2.heap.size) w2 (rIt n.next) (.slice a1 n1 k1) (.slice a2 n2 k2)) := ⟨b2, lf⟩; have nb2 := HNB.out (ch b2 (below_alloc w2 (.cells #[.bool el, .slice a1 n1 k1, .slice a2 n2 k2] 62))); have ck := nb2.k; have cv2 := nb2.v; rw [EV.out] at cv2; rw [HK1.out] at ck; have B3 : Below W1.heap.size W1 (w2.alloc (.cells #[.bool false, .slice av n.val.length cv, .slice none 0 0] 62)) := ch b2 (below_alloc _ _); have HB3 : Hid (Below W1.heap.size W1 (w2.alloc (.cells #[.bool false, .slice av n.val.length cv, .slice none 0 0] 62))) := B3; have cp := (HNB.out B3).p; have KPP := KP.out B3; clear lf b2 K1 nb2 B3)
      | (go_at_call 49; refine KPP.mono ?_; rintro e w4 ⟨q, rfl, ans⟩; obtain ⟨aw, cw, rfl⟩ := ans.form; obtain ⟨e0, e1, e2⟩ := box_keep ans.below; have HA : Hid (Ans (w2.alloc (.cells #[.bool false, .slice av n.val.length cv, .slice none 0 0] 62)) w4 (.slice aw (pkR true n.path).length cw) (pkR true n.path)) := ans; have bx5 := HBX.out (ch (ch HB3.out ans.below) (below_alloc w4 (.cells #[.bool false, .slice aw (pkR true n.path).length cw, .slice none 0 0, .bool false, .slice av n.val.length cv, .slice none 0 0] 62))); obtain ⟨y0, y1, y2, yf⟩ := bx5.cells; have f0 := yf 0; have f1 := yf 1; have f2 := yf 2; have HBX5 : Hid (Bx (w4.alloc (.cells #[.bool false, .slice aw (pkR true n.path).length cw, .slice none 0 0, .bool false, .slice av n.val.length cv, .slice none 0 0] 62)) (w.heap.size + 1) 62 (.bool false) (.slice none 0 0) (.slice none 0 0)) := bx5; clear ans KPP bx5 yf))
    have b6 := HBX5.out.set3 (x' := .bool true) (y' := .slice none 0 0) (z' := .slice (some ⟨w4.heap.size, 0, none⟩) 2 2)
    have t6 := set3_turn (w4.alloc (.cells #[.bool false, .slice aw (pkR true n.path).length cw, .slice none 0 0, .bool false, .slice av n.val.length cv, .slice none 0 0] 62)) (w.heap.size + 1) (.bool true) (.slice none 0 0) (.slice (some ⟨w4.heap.size, 0, none⟩) 2 2)
    obtain ⟨z0, z1, z2, -⟩ := b6.cells
    refine bodyPost_ret (res1 rfl _ _ (w.heap.size + 1) _ rfl (loadVar25 z0 z1 z2)) rfl ?_
    have sz := HH.out.2.2.1
    have b14 := ch HB3.out HA.out.below
    have b4 : Below w.heap.size w w4 := ch HH.out.2.1 b14
    have b5 : Below w.heap.size w (w4.alloc (.cells #[.bool false, .slice aw (pkR true n.path).length cw, .slice none 0 0, .bool false, .slice av n.val.length cv, .slice none 0 0] 62)) := ch b4 (below_alloc _ _)
    have s4 := b14.size
    refine ⟨_, _, by rw [HK.out]; rfl, ?_, b5.trans (t6.below (fun i q => by omega) b5.size)⟩
    rw [HK.out]
    have low : Lf (fun k => k ≠ w.heap.size + 1 ∧ k ≠ w4.heap.size) w4 (.mk false (pkR true n.path) []) (.slice aw (pkR true n.path).length cw) (.slice none 0 0) := by
      have ho := HA.out.own
      refine lf_str (vf_of_own ho HA.out.byt HA.out.len (fun q hq => ?_))
      have l1 := ho.lt q hq
      have l0 := HB3.out.size
      exact ⟨by omega, by omega⟩
    have loe : Lf (fun k => k ≠ w.heap.size + 1 ∧ k ≠ w4.heap.size) w4 (.mk false n.val []) (.slice av n.val.length cv) (.slice none 0 0) := by
      have q := vb_vf HH.out.1.v
      rw [EV.out] at q
      refine lf_str ((q.keep b4).mono (fun k hk _ => ⟨by omega, ?_⟩))
      have := b4.size
      omega
    refine Lf.lies (P := fun k => k ≠ w.heap.size + 1) ?_
    refine Lf.same (w := w4.alloc (.cells #[.bool false, .slice aw (pkR true n.path).length cw, .slice none 0 0, .bool false, .slice av n.val.length cv, .slice none 0 0] 62)) (fun i hi hl => t6.block i hl hi) ?_
    refine lf_two (g := w4.heap.size) (fr := (0, 0)) (x := .mk false (pkR true n.path) []) (y := (.mk false n.val [])) ?_ (by omega) ((low.keep (below_alloc _ _)).mono (fun k hk _ => hk.1)) ((loe.keep (below_alloc _ _)).mono (fun k hk _ => hk.1))
    exact heap_alloc_new _ _
  · have HK : Hid (nIt n = .mk true [] [.mk false (pkR false n.path) [], rIt n.next]) := by show _ = _; unfold nIt; rw [if_neg (by omega), if_pos k2]
    have KP : Hid (∀ {w' : World}, Below W1.heap.size W1 w' → Calls Try.prog 49 #[u.p, .bool false] w' fun e w'' => ∃ q, e = .returned (.tuple #[q, .int .i64 ((pkE n.path : Nat) : Int)]) ∧ Ans w' w'' q (pkR false n.path)) := fun k => pack_vb false (Rel.keep HH.out.1.p (ch HH.out.2.1 k))
    have HK1 : Hid (n.k = 2) := k2
    clear ev k2
    go_enter Try.func27, Try.ntmps27
    go_upto_region 1 with (fail)
    rw [← HW.out.1, ← HW.out.2]
    go_wp2_with (first
      | refine wpList_ld26 (by kernel_rfl) _ (by rfl) _ _ _ _ hh cx (by rfl) ?_
      | (go_at_call 48; refine K1.mono ?_; rintro e w2 ⟨vb, vi, rfl, lf, b2⟩; obtain ⟨a1, n1, k1, a2, n2, k2, rfl, rfl⟩ := lf.lies.form; have HL : Hid (Below W1.heap.size W1 w2 ∧ Lf (fun k => W1.heap.size ≤ k ∧ k < w2.heap.size) w2 (rIt n.next) (.slice a1 n1 k1) (.slice a2 n2 k2)) := ⟨b2, lf⟩; have nb2 := HNB.out (ch b2 (below_alloc w2 (.cells #[.bool el, .slice a1 n1 k1, .slice a2 n2 k2] 62))); have ck := nb2.k; rw [HK1.out] at ck; have B3 : Below W1.heap.size W1 (w2.alloc (.cells #[.bool el, .slice a1 n1 k1, .slice a2 n2 k2] 62)) := ch b2 (below_alloc _ _); have HB3 : Hid (Below W1.heap.size W1 (w2.alloc (.cells #[.bool el, .slice a1 n1 k1, .slice a2 n2 k2] 62))) := B3; have cp := (HNB.out B3).p; have KPP := KP.out B3; clear lf b2 K1 nb2 B3)
      | (go_at_call 49; refine KPP.mono ?_; rintro e w4 ⟨q, rfl, ans⟩; obtain ⟨aw, cw, rfl⟩ := ans.form; obtain ⟨e0, e1, e2⟩ := box_keep ans.below; have HA : Hid (Ans (w2.alloc (.cells #[.bool el, .slice a1 n1 k1, .slice a2 n2 k2] 62)) w4 (.slice aw (pkR false n.path).length cw) (pkR false n.path)) := ans; have bx5 := HBX.out (ch (ch HB3.out ans.below) (below_alloc w4 (.cells #[.bool false, .slice aw (pkR false n.path).length cw, .slice none 0 0, .bool el, .slice a1 n1 k1, .slice a2 n2 k2] 62))); obtain ⟨y0, y1, y2, yf⟩ := bx5.cells; have f0 := yf 0; have f1 := yf 1; have f2 := yf 2; have HBX5 : Hid (Bx (w4.alloc (.cells #[.bool false, .slice aw (pkR false n.path).length cw, .slice none 0 0, .bool el, .slice a1 n1 k1, .slice a2 n2 k2] 62)) (w.heap.size + 1) 62 (.bool false) (.slice none 0 0) (.slice none 0 0)) := bx5; clear ans KPP bx5 yf))
    have b6 := HBX5.out.set3 (x' := .bool true) (y' := .slice none 0 0) (z' := .slice (some ⟨w4.heap.size, 0, none⟩) 2 2)
    have t6 := set3_turn (w4.alloc (.cells #[.bool false, .slice aw (pkR false n.path).length cw, .slice none 0 0, .bool el, .slice a1 n1 k1, .slice a2 n2 k2] 62)) (w.heap.size + 1) (.bool true) (.slice none 0 0) (.slice (some ⟨w4.heap.size, 0, none⟩) 2 2)
    obtain ⟨z0, z1, z2, -⟩ := b6.cells
    refine bodyPost_ret (res1 rfl _ _ (w.heap.size + 1) _ rfl (loadVar25 z0 z1 z2)) rfl ?_
    have sz := HH.out.2.2.1
    have b14 := ch HB3.out HA.out.below
    have b4 : Below w.heap.size w w4 := ch HH.out.2.1 b14
    have b5 : Below w.heap.size w (w4.alloc (.cells #[.bool false, .slice aw (pkR false n.path).length cw, .slice none 0 0, .bool el, .slice a1 n1 k1, .slice a2 n2 k2] 62)) := ch b4 (below_alloc _ _)
    have s4 := b14.size
    refine ⟨_, _, by rw [HK.out]; rfl, ?_, b5.trans (t6.below (fun i q => by omega) b5.size)⟩
    rw [HK.out]
    have low : Lf (fun k => k ≠ w.heap.size + 1 ∧ k ≠ w4.heap.size) w4 (.mk false (pkR false n.path) []) (.slice aw (pkR false n.path).length cw) (.slice none 0 0) := by
      have ho := HA.out.own
      refine lf_str (vf_of_own ho HA.out.byt HA.out.len (fun q hq => ?_))
      have l1 := ho.lt q hq
      have l0 := HB3.out.size
      exact ⟨by omega, by omega⟩
    have loe : Lf (fun k => k ≠ w.heap.size + 1 ∧ k ≠ w4.heap.size) w4 (rIt n.next) (.slice a1 n1 k1) (.slice a2 n2 k2) := by
      refine (HL.out.2.keep (ch (below_alloc _ _) HA.out.below)).mono (fun k hk _ => ⟨by omega, ?_⟩)
      have l1 := HA.out.below.size
      rw [World.size_alloc] at l1
      omega
    refine Lf.lies (P := fun k => k ≠ w.heap.size + 1) ?_
    refine Lf.same (w := w4.alloc (.cells #[.bool false, .slice aw (pkR false n.path).length cw, .slice none 0 0, .bool el, .slice a1 n1 k1, .slice a2 n2 k2] 62)) (fun i hi hl => t6.block i hl hi) ?_
    refine lf_two (g := w4.heap.size) (fr := (0, 0)) (x := .mk false (pkR false n.path) []) (y := (rIt n.next)) ?_ (by omega) ((low.keep (below_alloc _ _)).mono (fun k hk _ => hk.1)) ((loe.keep (below_alloc _ _)).mono (fun k hk _ => hk.1))
    rw [← HEL.out]; exact heap_alloc_new _ _
end Go.Proofs.Ytadcbhjmbgenbaa
