/-
  cairnref05.read: a string.
-/
import Derived.Test.YtlpmcdnhnhgmpaaRd2
namespace Go.Proofs.Ytlpmcdnhnhgmpaa
open Go.RowKit

theorem behind_some (p : Addr) (c l : Nat) : ∃ q, behind (some p) c l = some q := by
  unfold behind
  split
  · exact ⟨_, rfl⟩
  · exact ⟨_, rfl⟩
theorem RPost.str {s : List Nat} {d p e z : Nat} {w w3 : World} {t : List Nat} {v : Value} (hr : rd s d p e = .ok (.mk false t []) z) (hb : Below w.heap.size w w3) (own : w3.ownsRow (w.heap.size + 1) 5 1 v t.length (bv t)) (ok : ∀ x ∈ t, x < 256) (hl : t.length ≤ 140737488351232) (hs : w.heap.size + 1 ≤ w3.heap.size) :
    RPost s d p e w (.returned (.agg #[.bool false, v, .slice none 0 0, .int .i64 (z : Nat), .int .i64 0, .int .i64 0])) (set6 w3 w.heap.size (.bool false) v (.slice none 0 0) (.int .i64 (z : Nat)) (.int .i64 0) (.int .i64 0)) := by
  have t6 := set6_turn w3 w.heap.size (.bool false) v (.slice none 0 0) (.int .i64 (z : Nat)) (.int .i64 0) (.int .i64 0)
  unfold RPost
  rw [hr]
  refine ⟨hb.trans (t6.below (fun i q => by omega) (by omega)), _, _, rfl, ?_⟩
  refine og_str ?_ ok hl
  exact own_rebase (own_turn own t6 (fun g hg q => by have := (own.lt g hg).1; omega)) (fun g hg => by have := (own.lt g hg).1; omega)

set_option maxRecDepth 100000 in
set_option maxHeartbeats 1600000 in
theorem rread128_g (w : World) (a : Option Addr) (b off n c : Nat) (s : List Nat) (p e d m : Nat) (h : Rp w a b off n c s e d) (hp : p < e) (hg : gd s p = 128 + m) (hm : m < 64) (h1 : m = 1) (h2 : ¬ e - (p + 1) < m) (h3 : gd s (p + 1) < 128) :
    Calls Try.prog 34 #[.slice a n c, .int .i64 p, .int .i64 e, .int .i64 ((80 - d : Nat) : Int)] w (RPost s d p e w) := by
  have HR : Hid (rd s d p e = .bad p 52) := by
    show _ = _
    rw [rd_eq, if_neg (by omega), if_neg (by omega), if_pos (by omega), show gd s p - 128 = m by omega]
    rw [rdHead, if_pos (by omega), if_neg h2]
    dsimp only
    rw [if_pos ⟨by omega, h3⟩]
  have hen := h.en
  obtain ⟨rfl, c0, hx⟩ := h.vp.cell (i := p) (by omega)
  have hbw : b < w.heap.size := World.block_lt_of_cell? _ _ c0
  have hn : n ≤ 1048576 := by have := h.vp.len; have := h.vp.small; omega
  rw [hg, show ((128 + m : Nat) : Int) = 128 + (m : Int) by omega] at c0
  replace c0 := ((below_alloc w (.cells #[.bool false, .slice none 0 0, .slice none 0 0, .int .i64 0, .int .i64 0, .int .i64 0] 75)).cell (p := ⟨b, off + p, none⟩) hbw).trans c0
  have i0 : ¬ (p : Int) = e := by omega
  have i0b : ((p : Int) == (e : Int)) = false := by simpa using i0
  have i1 : ¬ 128 + (m : Int) < 128 := by omega
  have i2 : (p : Int) < n := by omega
  have i3 : ¬ (192 : Int) ≤ 128 + (m : Int) := by omega
  have i4 : 128 + (m : Int) - 128 = m := by omega
  generalize 80 - d = dd
  obtain ⟨-, c1, hx1⟩ := h.vp.cell (i := p + 1) (by omega)
  replace c1 := ((below_alloc w (.cells #[.bool false, .slice none 0 0, .slice none 0 0, .int .i64 0, .int .i64 0, .int .i64 0] 75)).cell (p := ⟨b, off + (p + 1), none⟩) hbw).trans c1
  rw [show off + (p + 1) = off + p + 1 by omega] at c1
  have c1' := c1
  rw [show off + p + 1 = off + (p + 1) by omega] at c1'
  subst h1
  have i6b : ¬ (56 : Int) ≤ ((1 : Nat) : Int) := by omega
  have i8 : ¬ (e : Int) - ((p : Int) + 1) < ((1 : Nat) : Int) := by omega
  have i9 : (p : Int) + 1 < n := by omega
  have i10 : ((gd s (p + 1) : Nat) : Int) < 128 := by omega
  generalize gd s (p + 1) = y at *
  clear h hg
  go_enter Try.func34, Try.ntmps34
  go_wp2_with fail
  refine bodyPost_ret (res75 rfl _ rfl (heap_alloc_new _ _)) rfl ?_
  exact RPost.bad HR.out

set_option maxRecDepth 100000 in
set_option maxHeartbeats 1600000 in
theorem rread128_h (w : World) (a : Option Addr) (b off n c : Nat) (s : List Nat) (p e d m : Nat) (h : Rp w a b off n c s e d) (hp : p < e) (hg : gd s p = 128 + m) (hm : m < 64) (h1 : m = 1) (h2 : ¬ e - (p + 1) < m) (h3 : ¬ gd s (p + 1) < 128) :
    Calls Try.prog 34 #[.slice a n c, .int .i64 p, .int .i64 e, .int .i64 ((80 - d : Nat) : Int)] w (RPost s d p e w) := by
  have HR : Hid (rd s d p e = .ok (.mk false (cut s (p + 1) (p + 1 + m)) []) (p + 1 + m)) := by
    show _ = _
    rw [rd_eq, if_neg (by omega), if_neg (by omega), if_pos (by omega), show gd s p - 128 = m by omega]
    rw [rdHead, if_pos (by omega), if_neg h2]
    dsimp only
    rw [if_neg (fun q => h3 q.2)]
  have hen := h.en
  obtain ⟨rfl, c0, hx⟩ := h.vp.cell (i := p) (by omega)
  have hbw : b < w.heap.size := World.block_lt_of_cell? _ _ c0
  have hn : n ≤ 1048576 := by have := h.vp.len; have := h.vp.small; omega
  rw [hg, show ((128 + m : Nat) : Int) = 128 + (m : Int) by omega] at c0
  replace c0 := ((below_alloc w (.cells #[.bool false, .slice none 0 0, .slice none 0 0, .int .i64 0, .int .i64 0, .int .i64 0] 75)).cell (p := ⟨b, off + p, none⟩) hbw).trans c0
  have i0 : ¬ (p : Int) = e := by omega
  have i0b : ((p : Int) == (e : Int)) = false := by simpa using i0
  have i1 : ¬ 128 + (m : Int) < 128 := by omega
  have i2 : (p : Int) < n := by omega
  have i3 : ¬ (192 : Int) ≤ 128 + (m : Int) := by omega
  have i4 : 128 + (m : Int) - 128 = m := by omega
  generalize 80 - d = dd
  obtain ⟨-, c1, hx1⟩ := h.vp.cell (i := p + 1) (by omega)
  replace c1 := ((below_alloc w (.cells #[.bool false, .slice none 0 0, .slice none 0 0, .int .i64 0, .int .i64 0, .int .i64 0] 75)).cell (p := ⟨b, off + (p + 1), none⟩) hbw).trans c1
  rw [show off + (p + 1) = off + p + 1 by omega] at c1
  have c1' := c1
  rw [show off + p + 1 = off + (p + 1) by omega] at c1'
  subst h1
  have i6b : ¬ (56 : Int) ≤ ((1 : Nat) : Int) := by omega
  have i8 : ¬ (e : Int) - ((p : Int) + 1) < ((1 : Nat) : Int) := by omega
  have i9 : (p : Int) + 1 < n := by omega
  have i10 : ¬ ((gd s (p + 1) : Nat) : Int) < 128 := by omega
  obtain ⟨t, et⟩ : ∃ t, t = cut s (p + 1) (p + 1 + 1) := ⟨_, rfl⟩
  have htl : t.length = 1 := by rw [et, cut_len (by have := h.vp.len; omega)]; omega
  obtain ⟨pb, epb⟩ := behind_some ⟨b, off, none⟩ c (p + 1)
  have hvt : View (((w.alloc (.cells #[.bool false, .slice none 0 0, .slice none 0 0, .int .i64 0, .int .i64 0, .int .i64 0] 75))).alloc (.cells #[] 5)) (some pb) b (off + (p + 1)) 1 (fun i => ((gd t i : Nat) : Int)) := by
    have q := (h.vp.keep (ch (below_alloc w (.cells #[.bool false, .slice none 0 0, .slice none 0 0, .int .i64 0, .int .i64 0, .int .i64 0] 75)) (below_alloc _ (.cells #[] 5)))).cut (l := p + 1) (z := p + 1 + 1) (by omega) (by omega)
    rw [epb, ← et] at q
    unfold Vw at q
    rw [htl] at q
    exact q
  have st := slice_both (some ⟨b, off, none⟩) n c (p + 1) (p + 1 + 1) (by omega) (by have := h.vp.cap; omega)
  rw [epb, show (p + 1 + 1) - (p + 1) = 1 by omega, show (((p + 1 : Nat)) : Int) = (p : Int) + 1 by omega, show (((p + 1 + 1 : Nat)) : Int) = (p : Int) + 1 + 1 by omega] at st
  have hok : ∀ x ∈ t, x < 256 := fun x hx => h.vp.ok x (cut_mem (by rw [et] at hx; exact hx))
  rw [← et] at HR
  have own0 := World.ownsRow_lit (base := w.heap.size + 1) (e := 5) (size := 1) (w.alloc (.cells #[.bool false, .slice none 0 0, .slice none 0 0, .int .i64 0, .int .i64 0, .int .i64 0] 75)) #[] 0 (by simp) (by decide) rfl
  simp only [World.size_alloc] at own0
  have HH : Hid ((((w.alloc (.cells #[.bool false, .slice none 0 0, .slice none 0 0, .int .i64 0, .int .i64 0, .int .i64 0] 75))).alloc (.cells #[] 5)).ownsRow (w.heap.size + 1) 5 1 (.slice (some ⟨w.heap.size + 1, 0, none⟩) 0 0) 0 [] ∧ View (((w.alloc (.cells #[.bool false, .slice none 0 0, .slice none 0 0, .int .i64 0, .int .i64 0, .int .i64 0] 75))).alloc (.cells #[] 5)) (some pb) b (off + (p + 1)) 1 (fun i => ((gd t i : Nat) : Int)) ∧ t.length = 1 ∧ ∀ x ∈ t, x < 256) := ⟨own0, hvt, htl, hok⟩
  clear h hg own0 hvt htl hok et epb
  generalize gd s (p + 1) = y at *
  go_enter Try.func34, Try.ntmps34
  go_wp2_with (first | (refine wpList_append_bytes (by rfl) (.tmp 113) (.tmp 119) (by rfl) (w.heap.size + 1) _ 0 [] (by rfl) HH.out.1 (some pb) b (off + (p + 1)) 1 (c - (p + 1)) _ (by rfl) HH.out.2.1 (fun q => by cases q) (by omega) (by simp) ?_))
  intro v3 w3 own3 gr3 nn3
  have own4 : w3.ownsRow (w.heap.size + 1) 5 1 v3 t.length (bv t) := by rw [← vals_bv t, HH.out.2.2.1]; simpa using own3
  obtain ⟨av, cv, ev⟩ := own_slice own4
  have hb6 : B6 w3 w.heap.size (.bool false) (.slice none 0 0) (.slice none 0 0) (.int .i64 0) (.int .i64 0) (.int .i64 0) := by
    show _ = _
    rw [gr3.block w.heap.size (by simp; omega) (fun q => by have q := Option.some.inj q; simp at q), heap_alloc_old _ _ (by simp)]
    exact heap_alloc_new _ _
  have bw : Below w.heap.size w w3 := (ch (below_alloc w (.cells #[.bool false, .slice none 0 0, .slice none 0 0, .int .i64 0, .int .i64 0, .int .i64 0] 75)) (below_alloc _ (.cells #[] 5))).trans (grown_below gr3 HH.out.1 (by omega) (by simp; omega))
  have hsz : w.heap.size + 1 ≤ w3.heap.size := by have := gr3.size; simp at this; omega
  rw [HH.out.2.2.1] at ev
  subst ev
  have HZ : Hid (w3.ownsRow (w.heap.size + 1) 5 1 (.slice av 1 cv) t.length (bv t) ∧ B6 w3 w.heap.size (.bool false) (.slice none 0 0) (.slice none 0 0) (.int .i64 0) (.int .i64 0) (.int .i64 0) ∧ Below w.heap.size w w3 ∧ w.heap.size + 1 ≤ w3.heap.size) := ⟨own4, hb6, bw, hsz⟩
  have x0 := hb6.cell 0
  have x1 := hb6.cell 1
  have x2 := hb6.cell 2
  have x3 := hb6.cell 3
  have x4 := hb6.cell 4
  have x5 := hb6.cell 5
  simp at x0 x1 x2 x3 x4 x5
  have f0 := hb6.frozen 0
  have f1 := hb6.frozen 1
  have f2 := hb6.frozen 2
  have f3 := hb6.frozen 3
  have f4 := hb6.frozen 4
  have f5 := hb6.frozen 5
  clear own3 own4 gr3 nn3 hb6 bw hsz
  go_wp2_with fail
  refine bodyPost_ret (res75 rfl _ rfl HZ.out.2.1.set) rfl ?_
  rw [← show (((p + 1 + 1 : Nat)) : Int) = (p : Int) + 1 + 1 by omega]
  exact RPost.str HR.out HZ.out.2.2.1 HZ.out.1 HH.out.2.2.2 (by rw [HH.out.2.2.1]; omega) HZ.out.2.2.2

set_option maxRecDepth 100000 in
set_option maxHeartbeats 1600000 in
theorem rread128_i (w : World) (a : Option Addr) (b off n c : Nat) (s : List Nat) (p e d m : Nat) (h : Rp w a b off n c s e d) (hp : p < e) (hg : gd s p = 128 + m) (hm : m < 64) (h1 : m < 56) (h1b : m ≠ 1) (h2 : ¬ e - (p + 1) < m) :
    Calls Try.prog 34 #[.slice a n c, .int .i64 p, .int .i64 e, .int .i64 ((80 - d : Nat) : Int)] w (RPost s d p e w) := by
  have HR : Hid (rd s d p e = .ok (.mk false (cut s (p + 1) (p + 1 + m)) []) (p + 1 + m)) := by
    show _ = _
    rw [rd_eq, if_neg (by omega), if_neg (by omega), if_pos (by omega), show gd s p - 128 = m by omega]
    rw [rdHead, if_pos h1, if_neg h2]
    dsimp only
    rw [if_neg (fun q => h1b (by omega))]
  have hen := h.en
  obtain ⟨rfl, c0, hx⟩ := h.vp.cell (i := p) (by omega)
  have hbw : b < w.heap.size := World.block_lt_of_cell? _ _ c0
  have hn : n ≤ 1048576 := by have := h.vp.len; have := h.vp.small; omega
  rw [hg, show ((128 + m : Nat) : Int) = 128 + (m : Int) by omega] at c0
  replace c0 := ((below_alloc w (.cells #[.bool false, .slice none 0 0, .slice none 0 0, .int .i64 0, .int .i64 0, .int .i64 0] 75)).cell (p := ⟨b, off + p, none⟩) hbw).trans c0
  have i0 : ¬ (p : Int) = e := by omega
  have i0b : ((p : Int) == (e : Int)) = false := by simpa using i0
  have i1 : ¬ 128 + (m : Int) < 128 := by omega
  have i2 : (p : Int) < n := by omega
  have i3 : ¬ (192 : Int) ≤ 128 + (m : Int) := by omega
  have i4 : 128 + (m : Int) - 128 = m := by omega
  generalize 80 - d = dd
  have i6 : (m : Int) < 56 := by omega
  have i6b : ¬ (56 : Int) ≤ (m : Int) := by omega
  have i6c : ¬ (m : Int) = 1 := by omega
  have i6d : ((m : Int) == 1) = false := by simpa using i6c
  have i8 : ¬ (e : Int) - ((p : Int) + 1) < m := by omega
  obtain ⟨t, et⟩ : ∃ t, t = cut s (p + 1) (p + 1 + m) := ⟨_, rfl⟩
  have htl : t.length = m := by rw [et, cut_len (by have := h.vp.len; omega)]; omega
  obtain ⟨pb, epb⟩ := behind_some ⟨b, off, none⟩ c (p + 1)
  have hvt : View (((w.alloc (.cells #[.bool false, .slice none 0 0, .slice none 0 0, .int .i64 0, .int .i64 0, .int .i64 0] 75))).alloc (.cells #[] 5)) (some pb) b (off + (p + 1)) m (fun i => ((gd t i : Nat) : Int)) := by
    have q := (h.vp.keep (ch (below_alloc w (.cells #[.bool false, .slice none 0 0, .slice none 0 0, .int .i64 0, .int .i64 0, .int .i64 0] 75)) (below_alloc _ (.cells #[] 5)))).cut (l := p + 1) (z := p + 1 + m) (by omega) (by omega)
    rw [epb, ← et] at q
    unfold Vw at q
    rw [htl] at q
    exact q
  have st := slice_both (some ⟨b, off, none⟩) n c (p + 1) (p + 1 + m) (by omega) (by have := h.vp.cap; omega)
  rw [epb, show (p + 1 + m) - (p + 1) = m by omega, show (((p + 1 : Nat)) : Int) = (p : Int) + 1 by omega, show (((p + 1 + m : Nat)) : Int) = (p : Int) + 1 + m by omega] at st
  have hok : ∀ x ∈ t, x < 256 := fun x hx => h.vp.ok x (cut_mem (by rw [et] at hx; exact hx))
  rw [← et] at HR
  have own0 := World.ownsRow_lit (base := w.heap.size + 1) (e := 5) (size := 1) (w.alloc (.cells #[.bool false, .slice none 0 0, .slice none 0 0, .int .i64 0, .int .i64 0, .int .i64 0] 75)) #[] 0 (by simp) (by decide) rfl
  simp only [World.size_alloc] at own0
  have HH : Hid ((((w.alloc (.cells #[.bool false, .slice none 0 0, .slice none 0 0, .int .i64 0, .int .i64 0, .int .i64 0] 75))).alloc (.cells #[] 5)).ownsRow (w.heap.size + 1) 5 1 (.slice (some ⟨w.heap.size + 1, 0, none⟩) 0 0) 0 [] ∧ View (((w.alloc (.cells #[.bool false, .slice none 0 0, .slice none 0 0, .int .i64 0, .int .i64 0, .int .i64 0] 75))).alloc (.cells #[] 5)) (some pb) b (off + (p + 1)) m (fun i => ((gd t i : Nat) : Int)) ∧ t.length = m ∧ ∀ x ∈ t, x < 256) := ⟨own0, hvt, htl, hok⟩
  clear h hg own0 hvt htl hok et epb
  go_enter Try.func34, Try.ntmps34
  go_wp2_with (first | (refine wpList_append_bytes (by rfl) (.tmp 113) (.tmp 119) (by rfl) (w.heap.size + 1) _ 0 [] (by rfl) HH.out.1 (some pb) b (off + (p + 1)) m (c - (p + 1)) _ (by rfl) HH.out.2.1 (fun q => by cases q) (by omega) (by simp) ?_))
  intro v3 w3 own3 gr3 nn3
  have own4 : w3.ownsRow (w.heap.size + 1) 5 1 v3 t.length (bv t) := by rw [← vals_bv t, HH.out.2.2.1]; simpa using own3
  obtain ⟨av, cv, ev⟩ := own_slice own4
  have hb6 : B6 w3 w.heap.size (.bool false) (.slice none 0 0) (.slice none 0 0) (.int .i64 0) (.int .i64 0) (.int .i64 0) := by
    show _ = _
    rw [gr3.block w.heap.size (by simp; omega) (fun q => by have q := Option.some.inj q; simp at q), heap_alloc_old _ _ (by simp)]
    exact heap_alloc_new _ _
  have bw : Below w.heap.size w w3 := (ch (below_alloc w (.cells #[.bool false, .slice none 0 0, .slice none 0 0, .int .i64 0, .int .i64 0, .int .i64 0] 75)) (below_alloc _ (.cells #[] 5))).trans (grown_below gr3 HH.out.1 (by omega) (by simp; omega))
  have hsz : w.heap.size + 1 ≤ w3.heap.size := by have := gr3.size; simp at this; omega
  rw [HH.out.2.2.1] at ev
  subst ev
  have HZ : Hid (w3.ownsRow (w.heap.size + 1) 5 1 (.slice av m cv) t.length (bv t) ∧ B6 w3 w.heap.size (.bool false) (.slice none 0 0) (.slice none 0 0) (.int .i64 0) (.int .i64 0) (.int .i64 0) ∧ Below w.heap.size w w3 ∧ w.heap.size + 1 ≤ w3.heap.size) := ⟨own4, hb6, bw, hsz⟩
  have x0 := hb6.cell 0
  have x1 := hb6.cell 1
  have x2 := hb6.cell 2
  have x3 := hb6.cell 3
  have x4 := hb6.cell 4
  have x5 := hb6.cell 5
  simp at x0 x1 x2 x3 x4 x5
  have f0 := hb6.frozen 0
  have f1 := hb6.frozen 1
  have f2 := hb6.frozen 2
  have f3 := hb6.frozen 3
  have f4 := hb6.frozen 4
  have f5 := hb6.frozen 5
  clear own3 own4 gr3 nn3 hb6 bw hsz
  go_wp2_with fail
  refine bodyPost_ret (res75 rfl _ rfl HZ.out.2.1.set) rfl ?_
  rw [← show (((p + 1 + m : Nat)) : Int) = (p : Int) + 1 + m by omega]
  exact RPost.str HR.out HZ.out.2.2.1 HZ.out.1 HH.out.2.2.2 (by rw [HH.out.2.2.1]; omega) HZ.out.2.2.2

set_option maxRecDepth 100000 in
set_option maxHeartbeats 1600000 in
theorem rread128_j (w : World) (a : Option Addr) (b off n c : Nat) (s : List Nat) (p e d m : Nat) (h : Rp w a b off n c s e d) (hp : p < e) (hg : gd s p = 128 + m) (hm : m < 64) (h1 : ¬ m < 56) (h2 : ¬ e - (p + 1) < m - 55) (h3 : gd s (p + 1) ≠ 0) (h4 : ¬ 1048576 < num (cut s (p + 1) (p + 1 + (m - 55)))) (h5 : ¬ num (cut s (p + 1) (p + 1 + (m - 55))) < 56) (h6 : ¬ e - (p + 1 + (m - 55)) < num (cut s (p + 1) (p + 1 + (m - 55)))) :
    Calls Try.prog 34 #[.slice a n c, .int .i64 p, .int .i64 e, .int .i64 ((80 - d : Nat) : Int)] w (RPost s d p e w) := by
  have HR : Hid (rd s d p e = .ok (.mk false (cut s (p + 1 + (m - 55)) (p + 1 + (m - 55) + num (cut s (p + 1) (p + 1 + (m - 55))))) []) (p + 1 + (m - 55) + num (cut s (p + 1) (p + 1 + (m - 55))))) := by
    show _ = _
    rw [rd_eq, if_neg (by omega), if_neg (by omega), if_pos (by omega), show gd s p - 128 = m by omega]
    rw [rdHead, if_neg h1, if_neg h2, if_neg h3, if_neg h4, if_neg h5, if_neg h6]
    dsimp only
    rw [if_neg (fun q => by omega)]
  have hen := h.en
  obtain ⟨rfl, c0, hx⟩ := h.vp.cell (i := p) (by omega)
  have hbw : b < w.heap.size := World.block_lt_of_cell? _ _ c0
  have hn : n ≤ 1048576 := by have := h.vp.len; have := h.vp.small; omega
  rw [hg, show ((128 + m : Nat) : Int) = 128 + (m : Int) by omega] at c0
  replace c0 := ((below_alloc w (.cells #[.bool false, .slice none 0 0, .slice none 0 0, .int .i64 0, .int .i64 0, .int .i64 0] 75)).cell (p := ⟨b, off + p, none⟩) hbw).trans c0
  have i0 : ¬ (p : Int) = e := by omega
  have i0b : ((p : Int) == (e : Int)) = false := by simpa using i0
  have i1 : ¬ 128 + (m : Int) < 128 := by omega
  have i2 : (p : Int) < n := by omega
  have i3 : ¬ (192 : Int) ≤ 128 + (m : Int) := by omega
  have i4 : 128 + (m : Int) - 128 = m := by omega
  generalize 80 - d = dd
  obtain ⟨k, rfl⟩ : ∃ k, m = k + 55 := ⟨m - 55, by omega⟩
  rw [show k + 55 - 55 = k by omega] at *
  have ek : ((k + 55 : Nat) : Int) = (k : Int) + 55 := by omega
  rw [ek] at c0 i1 i3 i4
  have i6 : ¬ (k : Int) + 55 < 56 := by omega
  have i6b : (56 : Int) ≤ (k : Int) + 55 := by omega
  have i7 : (k : Int) + 55 - 55 = k := by omega
  clear ek
  obtain ⟨-, c1, hx1⟩ := h.vp.cell (i := p + 1) (by omega)
  replace c1 := ((below_alloc w (.cells #[.bool false, .slice none 0 0, .slice none 0 0, .int .i64 0, .int .i64 0, .int .i64 0] 75)).cell (p := ⟨b, off + (p + 1), none⟩) hbw).trans c1
  rw [show off + (p + 1) = off + p + 1 by omega] at c1
  have c1' := c1
  rw [show off + p + 1 = off + (p + 1) by omega] at c1'
  have hz : ¬ ((gd s (p + 1) : Nat) : Int) = 0 := by omega
  have hzb : (((gd s (p + 1) : Nat) : Int) == 0) = false := by simpa using hz
  have i8 : ¬ (e : Int) - ((p : Int) + 1) < k := by omega
  have i9 : (p : Int) + 1 < n := by omega
  have sb := slice_both (some ⟨b, off, none⟩) n c (p + 1) (p + 1 + k) (by omega) (by have := h.vp.cap; omega)
  have hc := (h.vp.keep (below_alloc w (.cells #[.bool false, .slice none 0 0, .slice none 0 0, .int .i64 0, .int .i64 0, .int .i64 0] 75))).cut (l := p + 1) (z := p + 1 + k) (by omega) (by omega)
  have hcl : (cut s (p + 1) (p + 1 + k)).length = k := by rw [cut_len (by have := h.vp.len; omega)]; omega
  have KN := rnum_any _ _ _ _ (c - (p + 1)) _ hc
  rw [hcl] at KN
  rw [show p + 1 + k - (p + 1) = k by omega] at sb
  generalize behind (some ⟨b, off, none⟩) c (p + 1) = bh at sb KN
  rw [show (((p + 1 : Nat)) : Int) = (p : Int) + 1 by omega, show (((p + 1 + k : Nat)) : Int) = (p : Int) + 1 + k by omega] at sb
  have es : sat (cut s (p + 1) (p + 1 + k)) = num (cut s (p + 1) (p + 1 + k)) := by unfold sat; omega
  rw [es] at KN
  generalize num (cut s (p + 1) (p + 1 + k)) = N at *
  have i10 : ¬ (1048576 : Int) < (N : Int) := by omega
  have i11 : ¬ (N : Int) < 56 := by omega
  have i12 : ¬ (e : Int) - ((p : Int) + 1 + k) < N := by omega
  have i13 : ¬ (N : Int) = 1 := by omega
  have i14 : ((N : Int) == 1) = false := by simpa using i13
  obtain ⟨t, et⟩ : ∃ t, t = cut s (p + 1 + k) (p + 1 + k + N) := ⟨_, rfl⟩
  have htl : t.length = N := by rw [et, cut_len (by have := h.vp.len; omega)]; omega
  obtain ⟨pb, epb⟩ := behind_some ⟨b, off, none⟩ c (p + 1 + k)
  have hvt : View (((w.alloc (.cells #[.bool false, .slice none 0 0, .slice none 0 0, .int .i64 0, .int .i64 0, .int .i64 0] 75))).alloc (.cells #[] 5)) (some pb) b (off + (p + 1 + k)) N (fun i => ((gd t i : Nat) : Int)) := by
    have q := (h.vp.keep (ch (below_alloc w (.cells #[.bool false, .slice none 0 0, .slice none 0 0, .int .i64 0, .int .i64 0, .int .i64 0] 75)) (below_alloc _ (.cells #[] 5)))).cut (l := p + 1 + k) (z := p + 1 + k + N) (by omega) (by omega)
    rw [epb, ← et] at q
    unfold Vw at q
    rw [htl] at q
    exact q
  have st := slice_both (some ⟨b, off, none⟩) n c (p + 1 + k) (p + 1 + k + N) (by omega) (by have := h.vp.cap; omega)
  rw [epb, show (p + 1 + k + N) - (p + 1 + k) = N by omega, show (((p + 1 + k : Nat)) : Int) = (p : Int) + 1 + k by omega, show (((p + 1 + k + N : Nat)) : Int) = (p : Int) + 1 + k + N by omega] at st
  have hok : ∀ x ∈ t, x < 256 := fun x hx => h.vp.ok x (cut_mem (by rw [et] at hx; exact hx))
  rw [← et] at HR
  have own0 := World.ownsRow_lit (base := w.heap.size + 1) (e := 5) (size := 1) (w.alloc (.cells #[.bool false, .slice none 0 0, .slice none 0 0, .int .i64 0, .int .i64 0, .int .i64 0] 75)) #[] 0 (by simp) (by decide) rfl
  simp only [World.size_alloc] at own0
  have HH : Hid ((((w.alloc (.cells #[.bool false, .slice none 0 0, .slice none 0 0, .int .i64 0, .int .i64 0, .int .i64 0] 75))).alloc (.cells #[] 5)).ownsRow (w.heap.size + 1) 5 1 (.slice (some ⟨w.heap.size + 1, 0, none⟩) 0 0) 0 [] ∧ View (((w.alloc (.cells #[.bool false, .slice none 0 0, .slice none 0 0, .int .i64 0, .int .i64 0, .int .i64 0] 75))).alloc (.cells #[] 5)) (some pb) b (off + (p + 1 + k)) N (fun i => ((gd t i : Nat) : Int)) ∧ t.length = N ∧ ∀ x ∈ t, x < 256) := ⟨own0, hvt, htl, hok⟩
  clear h hg own0 hvt htl hok et epb hc hcl es
  generalize gd s (p + 1) = y at *
  go_enter Try.func34, Try.ntmps34
  go_wp2_with (first | (go_at_call 49; refine KN.mono ?_; rintro r w' ⟨rfl, rfl⟩) | (refine wpList_append_bytes (by rfl) (.tmp 113) (.tmp 119) (by rfl) (w.heap.size + 1) _ 0 [] (by rfl) HH.out.1 (some pb) b (off + (p + 1 + k)) N (c - (p + 1 + k)) _ (by rfl) HH.out.2.1 (fun q => by cases q) (by omega) (by simp) ?_))
  intro v3 w3 own3 gr3 nn3
  have own4 : w3.ownsRow (w.heap.size + 1) 5 1 v3 t.length (bv t) := by rw [← vals_bv t, HH.out.2.2.1]; simpa using own3
  obtain ⟨av, cv, ev⟩ := own_slice own4
  have hb6 : B6 w3 w.heap.size (.bool false) (.slice none 0 0) (.slice none 0 0) (.int .i64 0) (.int .i64 0) (.int .i64 0) := by
    show _ = _
    rw [gr3.block w.heap.size (by simp; omega) (fun q => by have q := Option.some.inj q; simp at q), heap_alloc_old _ _ (by simp)]
    exact heap_alloc_new _ _
  have bw : Below w.heap.size w w3 := (ch (below_alloc w (.cells #[.bool false, .slice none 0 0, .slice none 0 0, .int .i64 0, .int .i64 0, .int .i64 0] 75)) (below_alloc _ (.cells #[] 5))).trans (grown_below gr3 HH.out.1 (by omega) (by simp; omega))
  have hsz : w.heap.size + 1 ≤ w3.heap.size := by have := gr3.size; simp at this; omega
  rw [HH.out.2.2.1] at ev
  subst ev
  have HZ : Hid (w3.ownsRow (w.heap.size + 1) 5 1 (.slice av N cv) t.length (bv t) ∧ B6 w3 w.heap.size (.bool false) (.slice none 0 0) (.slice none 0 0) (.int .i64 0) (.int .i64 0) (.int .i64 0) ∧ Below w.heap.size w w3 ∧ w.heap.size + 1 ≤ w3.heap.size) := ⟨own4, hb6, bw, hsz⟩
  have x0 := hb6.cell 0
  have x1 := hb6.cell 1
  have x2 := hb6.cell 2
  have x3 := hb6.cell 3
  have x4 := hb6.cell 4
  have x5 := hb6.cell 5
  simp at x0 x1 x2 x3 x4 x5
  have f0 := hb6.frozen 0
  have f1 := hb6.frozen 1
  have f2 := hb6.frozen 2
  have f3 := hb6.frozen 3
  have f4 := hb6.frozen 4
  have f5 := hb6.frozen 5
  clear own3 own4 gr3 nn3 hb6 bw hsz
  go_wp2_with fail
  refine bodyPost_ret (res75 rfl _ rfl HZ.out.2.1.set) rfl ?_
  rw [← show (((p + 1 + k + N : Nat)) : Int) = (p : Int) + 1 + k + N by omega]
  exact RPost.str HR.out HZ.out.2.2.1 HZ.out.1 HH.out.2.2.2 (by rw [HH.out.2.2.1]; omega) HZ.out.2.2.2
end Go.Proofs.Ytlpmcdnhnhgmpaa
