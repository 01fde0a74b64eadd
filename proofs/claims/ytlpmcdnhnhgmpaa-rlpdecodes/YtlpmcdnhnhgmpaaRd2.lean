/-
  cairnref05.read: the faults.
-/
import Derived.Test.YtlpmcdnhnhgmpaaRd1
namespace Go.Proofs.Ytlpmcdnhnhgmpaa
open Go.RowKit

/-- the arguments of a reading -/
structure Rp (w : World) (a : Option Addr) (b off n c : Nat) (s : List Nat) (e d : Nat) : Prop where
  vp : Vp w a b off n c s
  all : n = s.length
  en : e ≤ n
  dep : d ≤ 80
theorem Rp.keep {w w' : World} {a : Option Addr} {b off n c : Nat} {s : List Nat} {e d : Nat} (h : Rp w a b off n c s e d) (k : Below w.heap.size w w') : Rp w' a b off n c s e d := ⟨h.vp.keep k, h.all, h.en, h.dep⟩

theorem og_str {w : World} {lo : Nat} {v : Value} {b : List Nat} (h : w.ownsRow lo 5 1 v b.length (bv b)) (hb : ∀ x ∈ b, x < 256) (hl : b.length ≤ 140737488351232) : Og 34 [] w lo w.heap.size (.mk false b []) v (.slice none 0 0) :=
  .mk [] (fun _ => 0) (fun _ => 0) (sg_of_own h hb hl) (fun q hq => (h.lt q hq).2) ⟨rfl, Or.inl ⟨rfl, rfl⟩⟩ (fun q hq => by cases hq) rfl (by simp) (fun i hi => by simp at hi) (fun i hi => by simp at hi) (fun i x y hx => by simp at hx) (fun i x y hx => by simp at hx)

set_option maxRecDepth 100000 in
set_option maxHeartbeats 1600000 in
theorem rread_end (w : World) (a : Option Addr) (b off n c : Nat) (s : List Nat) (p e d : Nat) (h : Rp w a b off n c s e d) (hp : p = e) :
    Calls Try.prog 34 #[.slice a n c, .int .i64 p, .int .i64 e, .int .i64 ((80 - d : Nat) : Int)] w (RPost s d p e w) := by
  have HR : Hid (rd s d p e = .bad p 50) := by show _ = _; rw [rd_eq, if_pos hp]
  subst hp
  generalize 80 - d = dd
  clear h
  go_enter Try.func34, Try.ntmps34
  go_wp2_with fail
  refine bodyPost_ret (res75 rfl _ rfl (heap_alloc_new _ _)) rfl ?_
  exact RPost.bad HR.out

set_option maxRecDepth 100000 in
set_option maxHeartbeats 1600000 in
theorem rread_one (w : World) (a : Option Addr) (b off n c : Nat) (s : List Nat) (p e d : Nat) (h : Rp w a b off n c s e d) (hp : p < e) (hg : gd s p < 128) :
    Calls Try.prog 34 #[.slice a n c, .int .i64 p, .int .i64 e, .int .i64 ((80 - d : Nat) : Int)] w (RPost s d p e w) := by
  have HR : Hid (rd s d p e = .ok (.mk false [gd s p] []) (p + 1)) := by show _ = _; rw [rd_eq, if_neg (by omega), if_pos hg]
  generalize 80 - d = dd
  have hen := h.en
  obtain ⟨rfl, c0, hx⟩ := h.vp.cell (i := p) (by omega)
  have hbw : b < w.heap.size := World.block_lt_of_cell? _ _ c0
  replace c0 := ((below_alloc w (.cells #[.bool false, .slice none 0 0, .slice none 0 0, .int .i64 0, .int .i64 0, .int .i64 0] 75)).cell (p := ⟨b, off + p, none⟩) hbw).trans c0
  have hn : n ≤ 1048576 := by have := h.vp.len; have := h.vp.small; omega
  generalize gd s p = x at *
  have i0 : ¬ (p : Int) = e := by omega
  have i0b : ((p : Int) == (e : Int)) = false := by simpa using i0
  have i1 : (x : Int) < 128 := by omega
  have i2 : (p : Int) < n := by omega
  clear h
  go_enter Try.func34, Try.ntmps34
  go_wp2_with fail
  have hb6 : B6 ((w.alloc (.cells #[.bool false, .slice (some ⟨w.heap.size + 1, 0, none⟩) 1 1, .slice none 0 0, .int .i64 ((p : Int) + 1), .int .i64 0, .int .i64 0] 75)).alloc (.cells #[.int .u8 (x : Int)] 5)) w.heap.size (.bool false) (.slice (some ⟨w.heap.size + 1, 0, none⟩) 1 1) (.slice none 0 0) (.int .i64 ((p : Int) + 1)) (.int .i64 0) (.int .i64 0) := (heap_alloc_old _ _ (by simp)).trans (heap_alloc_new _ _)
  refine bodyPost_ret (res75 rfl _ rfl hb6) rfl ?_
  unfold RPost
  rw [HR.out]
  refine ⟨(below_alloc _ _).alloc (by simp) _, _, _, rfl, ?_⟩
  have own := World.ownsRow_lit (base := w.heap.size) (e := 5) (size := 1) (w.alloc (.cells #[.bool false, .slice (some ⟨w.heap.size + 1, 0, none⟩) 1 1, .slice none 0 0, .int .i64 ((p : Int) + 1), .int .i64 0, .int .i64 0] 75)) #[.int .u8 (x : Int)] 1 (by simp) (by decide) rfl
  simp only [World.size_alloc] at own
  exact og_str (by simpa [bv] using own) (by simpa using hx) (by simp)

set_option maxRecDepth 100000 in
set_option maxHeartbeats 1600000 in
theorem rread128_a (w : World) (a : Option Addr) (b off n c : Nat) (s : List Nat) (p e d m : Nat) (h : Rp w a b off n c s e d) (hp : p < e) (hg : gd s p = 128 + m) (hm : m < 64) (h1 : m < 56) (h2 : e - (p + 1) < m) :
    Calls Try.prog 34 #[.slice a n c, .int .i64 p, .int .i64 e, .int .i64 ((80 - d : Nat) : Int)] w (RPost s d p e w) := by
  have HR : Hid (rd s d p e = .bad p 50) := by
    show _ = _
    rw [rd_eq, if_neg (by omega), if_neg (by omega), if_pos (by omega), show gd s p - 128 = m by omega]
    rw [rdHead, if_pos h1, if_pos h2]
  have hen := h.en
  obtain ⟨rfl, c0, hx⟩ := h.vp.cell (i := p) (by omega)
  have hbw : b < w.heap.size := World.block_lt_of_cell? _ _ c0
  have hn : n ≤ 1048576 := by have := h.vp.len; have := h.vp.small; omega
  rw [hg, show ((128 + m : Nat) : Int) = 128 + (m : Int) by omega] at c0
  replace c0 := ((below_alloc w (.cells #[.bool false, .slice none 0 0, .slice none 0 0, .int .i64 0, .int .i64 0, .int .i64 0] 75)).cell (p := ⟨b, off + p, none⟩) hbw).trans c0
  have i0 : ¬ (p : Int) = e := by omega
  have i0b : ((p : Int) == (e : Int)) = false := by simpa using i0
  have i1 : ¬ 128 + (m : Int) < 128 := by omega
  have i2 : (p : Int) < n := by omega
  have i3 : ¬ (192 : Int) ≤ 128 + (m : Int) := by omega
  have i4 : 128 + (m : Int) - 128 = m := by omega
  generalize 80 - d = dd
  have i6 : (m : Int) < 56 := by omega
  have i6b : ¬ (56 : Int) ≤ (m : Int) := by omega
  have i8 : (e : Int) - ((p : Int) + 1) < m := by omega
  clear h hg
  go_enter Try.func34, Try.ntmps34
  go_wp2_with fail
  refine bodyPost_ret (res75 rfl _ rfl (heap_alloc_new _ _)) rfl ?_
  exact RPost.bad HR.out

set_option maxRecDepth 100000 in
set_option maxHeartbeats 1600000 in
theorem rread128_b (w : World) (a : Option Addr) (b off n c : Nat) (s : List Nat) (p e d m : Nat) (h : Rp w a b off n c s e d) (hp : p < e) (hg : gd s p = 128 + m) (hm : m < 64) (h1 : ¬ m < 56) (h2 : e - (p + 1) < m - 55) :
    Calls Try.prog 34 #[.slice a n c, .int .i64 p, .int .i64 e, .int .i64 ((80 - d : Nat) : Int)] w (RPost s d p e w) := by
  have HR : Hid (rd s d p e = .bad p 50) := by
    show _ = _
    rw [rd_eq, if_neg (by omega), if_neg (by omega), if_pos (by omega), show gd s p - 128 = m by omega]
    rw [rdHead, if_neg h1, if_pos h2]
  have hen := h.en
  obtain ⟨rfl, c0, hx⟩ := h.vp.cell (i := p) (by omega)
  have hbw : b < w.heap.size := World.block_lt_of_cell? _ _ c0
  have hn : n ≤ 1048576 := by have := h.vp.len; have := h.vp.small; omega
  rw [hg, show ((128 + m : Nat) : Int) = 128 + (m : Int) by omega] at c0
  replace c0 := ((below_alloc w (.cells #[.bool false, .slice none 0 0, .slice none 0 0, .int .i64 0, .int .i64 0, .int .i64 0] 75)).cell (p := ⟨b, off + p, none⟩) hbw).trans c0
  have i0 : ¬ (p : Int) = e := by omega
  have i0b : ((p : Int) == (e : Int)) = false := by simpa using i0
  have i1 : ¬ 128 + (m : Int) < 128 := by omega
  have i2 : (p : Int) < n := by omega
  have i3 : ¬ (192 : Int) ≤ 128 + (m : Int) := by omega
  have i4 : 128 + (m : Int) - 128 = m := by omega
  generalize 80 - d = dd
  obtain ⟨k, rfl⟩ : ∃ k, m = k + 55 := ⟨m - 55, by omega⟩
  rw [show k + 55 - 55 = k by omega] at *
  have ek : ((k + 55 : Nat) : Int) = (k : Int) + 55 := by omega
  rw [ek] at c0 i1 i3 i4
  have i6 : ¬ (k : Int) + 55 < 56 := by omega
  have i6b : (56 : Int) ≤ (k : Int) + 55 := by omega
  have i7 : (k : Int) + 55 - 55 = k := by omega
  clear ek
  have i8 : (e : Int) - ((p : Int) + 1) < k := by omega
  clear h hg
  go_enter Try.func34, Try.ntmps34
  go_wp2_with fail
  refine bodyPost_ret (res75 rfl _ rfl (heap_alloc_new _ _)) rfl ?_
  exact RPost.bad HR.out

set_option maxRecDepth 100000 in
set_option maxHeartbeats 1600000 in
theorem rread128_c (w : World) (a : Option Addr) (b off n c : Nat) (s : List Nat) (p e d m : Nat) (h : Rp w a b off n c s e d) (hp : p < e) (hg : gd s p = 128 + m) (hm : m < 64) (h1 : ¬ m < 56) (h2 : ¬ e - (p + 1) < m - 55) (h3 : gd s (p + 1) = 0) :
    Calls Try.prog 34 #[.slice a n c, .int .i64 p, .int .i64 e, .int .i64 ((80 - d : Nat) : Int)] w (RPost s d p e w) := by
  have HR : Hid (rd s d p e = .bad p 52) := by
    show _ = _
    rw [rd_eq, if_neg (by omega), if_neg (by omega), if_pos (by omega), show gd s p - 128 = m by omega]
    rw [rdHead, if_neg h1, if_neg h2, if_pos h3]
  have hen := h.en
  obtain ⟨rfl, c0, hx⟩ := h.vp.cell (i := p) (by omega)
  have hbw : b < w.heap.size := World.block_lt_of_cell? _ _ c0
  have hn : n ≤ 1048576 := by have := h.vp.len; have := h.vp.small; omega
  rw [hg, show ((128 + m : Nat) : Int) = 128 + (m : Int) by omega] at c0
  replace c0 := ((below_alloc w (.cells #[.bool false, .slice none 0 0, .slice none 0 0, .int .i64 0, .int .i64 0, .int .i64 0] 75)).cell (p := ⟨b, off + p, none⟩) hbw).trans c0
  have i0 : ¬ (p : Int) = e := by omega
  have i0b : ((p : Int) == (e : Int)) = false := by simpa using i0
  have i1 : ¬ 128 + (m : Int) < 128 := by omega
  have i2 : (p : Int) < n := by omega
  have i3 : ¬ (192 : Int) ≤ 128 + (m : Int) := by omega
  have i4 : 128 + (m : Int) - 128 = m := by omega
  generalize 80 - d = dd
  obtain ⟨k, rfl⟩ : ∃ k, m = k + 55 := ⟨m - 55, by omega⟩
  rw [show k + 55 - 55 = k by omega] at *
  have ek : ((k + 55 : Nat) : Int) = (k : Int) + 55 := by omega
  rw [ek] at c0 i1 i3 i4
  have i6 : ¬ (k : Int) + 55 < 56 := by omega
  have i6b : (56 : Int) ≤ (k : Int) + 55 := by omega
  have i7 : (k : Int) + 55 - 55 = k := by omega
  clear ek
  obtain ⟨-, c1, hx1⟩ := h.vp.cell (i := p + 1) (by omega)
  replace c1 := ((below_alloc w (.cells #[.bool false, .slice none 0 0, .slice none 0 0, .int .i64 0, .int .i64 0, .int .i64 0] 75)).cell (p := ⟨b, off + (p + 1), none⟩) hbw).trans c1
  rw [show off + (p + 1) = off + p + 1 by omega] at c1
  have c1' := c1
  rw [show off + p + 1 = off + (p + 1) by omega] at c1'
  rw [h3] at c1 c1'
  have i8 : ¬ (e : Int) - ((p : Int) + 1) < k := by omega
  have i9 : (p : Int) + 1 < n := by omega
  clear h hg
  go_enter Try.func34, Try.ntmps34
  go_wp2_with fail
  refine bodyPost_ret (res75 rfl _ rfl (heap_alloc_new _ _)) rfl ?_
  exact RPost.bad HR.out

set_option maxRecDepth 100000 in
set_option maxHeartbeats 1600000 in
theorem rread128_d (w : World) (a : Option Addr) (b off n c : Nat) (s : List Nat) (p e d m : Nat) (h : Rp w a b off n c s e d) (hp : p < e) (hg : gd s p = 128 + m) (hm : m < 64) (h1 : ¬ m < 56) (h2 : ¬ e - (p + 1) < m - 55) (h3 : gd s (p + 1) ≠ 0) (h4 : 1048576 < num (cut s (p + 1) (p + 1 + (m - 55)))) :
    Calls Try.prog 34 #[.slice a n c, .int .i64 p, .int .i64 e, .int .i64 ((80 - d : Nat) : Int)] w (RPost s d p e w) := by
  have HR : Hid (rd s d p e = .bad p 54) := by
    show _ = _
    rw [rd_eq, if_neg (by omega), if_neg (by omega), if_pos (by omega), show gd s p - 128 = m by omega]
    rw [rdHead, if_neg h1, if_neg h2, if_neg h3, if_pos h4]
  have hen := h.en
  obtain ⟨rfl, c0, hx⟩ := h.vp.cell (i := p) (by omega)
  have hbw : b < w.heap.size := World.block_lt_of_cell? _ _ c0
  have hn : n ≤ 1048576 := by have := h.vp.len; have := h.vp.small; omega
  rw [hg, show ((128 + m : Nat) : Int) = 128 + (m : Int) by omega] at c0
  replace c0 := ((below_alloc w (.cells #[.bool false, .slice none 0 0, .slice none 0 0, .int .i64 0, .int .i64 0, .int .i64 0] 75)).cell (p := ⟨b, off + p, none⟩) hbw).trans c0
  have i0 : ¬ (p : Int) = e := by omega
  have i0b : ((p : Int) == (e : Int)) = false := by simpa using i0
  have i1 : ¬ 128 + (m : Int) < 128 := by omega
  have i2 : (p : Int) < n := by omega
  have i3 : ¬ (192 : Int) ≤ 128 + (m : Int) := by omega
  have i4 : 128 + (m : Int) - 128 = m := by omega
  generalize 80 - d = dd
  obtain ⟨k, rfl⟩ : ∃ k, m = k + 55 := ⟨m - 55, by omega⟩
  rw [show k + 55 - 55 = k by omega] at *
  have ek : ((k + 55 : Nat) : Int) = (k : Int) + 55 := by omega
  rw [ek] at c0 i1 i3 i4
  have i6 : ¬ (k : Int) + 55 < 56 := by omega
  have i6b : (56 : Int) ≤ (k : Int) + 55 := by omega
  have i7 : (k : Int) + 55 - 55 = k := by omega
  clear ek
  obtain ⟨-, c1, hx1⟩ := h.vp.cell (i := p + 1) (by omega)
  replace c1 := ((below_alloc w (.cells #[.bool false, .slice none 0 0, .slice none 0 0, .int .i64 0, .int .i64 0, .int .i64 0] 75)).cell (p := ⟨b, off + (p + 1), none⟩) hbw).trans c1
  rw [show off + (p + 1) = off + p + 1 by omega] at c1
  have c1' := c1
  rw [show off + p + 1 = off + (p + 1) by omega] at c1'
  have hz : ¬ ((gd s (p + 1) : Nat) : Int) = 0 := by omega
  have hzb : (((gd s (p + 1) : Nat) : Int) == 0) = false := by simpa using hz
  have i8 : ¬ (e : Int) - ((p : Int) + 1) < k := by omega
  have i9 : (p : Int) + 1 < n := by omega
  have sb := slice_both (some ⟨b, off, none⟩) n c (p + 1) (p + 1 + k) (by omega) (by have := h.vp.cap; omega)
  have hc := (h.vp.keep (below_alloc w (.cells #[.bool false, .slice none 0 0, .slice none 0 0, .int .i64 0, .int .i64 0, .int .i64 0] 75))).cut (l := p + 1) (z := p + 1 + k) (by omega) (by omega)
  have hcl : (cut s (p + 1) (p + 1 + k)).length = k := by rw [cut_len (by have := h.vp.len; omega)]; omega
  have KN := rnum_any _ _ _ _ (c - (p + 1)) _ hc
  rw [hcl] at KN
  rw [show p + 1 + k - (p + 1) = k by omega] at sb
  generalize behind (some ⟨b, off, none⟩) c (p + 1) = bh at sb KN
  rw [show (((p + 1 : Nat)) : Int) = (p : Int) + 1 by omega, show (((p + 1 + k : Nat)) : Int) = (p : Int) + 1 + k by omega] at sb
  have es : sat (cut s (p + 1) (p + 1 + k)) = 1048577 := by unfold sat; omega
  rw [es] at KN
  clear h hg hc hcl es
  generalize gd s (p + 1) = y at *
  go_enter Try.func34, Try.ntmps34
  go_wp2_with (go_at_call 49; refine KN.mono ?_; rintro r w' ⟨rfl, rfl⟩)
  refine bodyPost_ret (res75 rfl _ rfl (heap_alloc_new _ _)) rfl ?_
  exact RPost.bad HR.out

set_option maxRecDepth 100000 in
set_option maxHeartbeats 1600000 in
theorem rread128_e (w : World) (a : Option Addr) (b off n c : Nat) (s : List Nat) (p e d m : Nat) (h : Rp w a b off n c s e d) (hp : p < e) (hg : gd s p = 128 + m) (hm : m < 64) (h1 : ¬ m < 56) (h2 : ¬ e - (p + 1) < m - 55) (h3 : gd s (p + 1) ≠ 0) (h5 : num (cut s (p + 1) (p + 1 + (m - 55))) < 56) :
    Calls Try.prog 34 #[.slice a n c, .int .i64 p, .int .i64 e, .int .i64 ((80 - d : Nat) : Int)] w (RPost s d p e w) := by
  have HR : Hid (rd s d p e = .bad p 52) := by
    show _ = _
    rw [rd_eq, if_neg (by omega), if_neg (by omega), if_pos (by omega), show gd s p - 128 = m by omega]
    rw [rdHead, if_neg h1, if_neg h2, if_neg h3, if_neg (by omega), if_pos h5]
  have hen := h.en
  obtain ⟨rfl, c0, hx⟩ := h.vp.cell (i := p) (by omega)
  have hbw : b < w.heap.size := World.block_lt_of_cell? _ _ c0
  have hn : n ≤ 1048576 := by have := h.vp.len; have := h.vp.small; omega
  rw [hg, show ((128 + m : Nat) : Int) = 128 + (m : Int) by omega] at c0
  replace c0 := ((below_alloc w (.cells #[.bool false, .slice none 0 0, .slice none 0 0, .int .i64 0, .int .i64 0, .int .i64 0] 75)).cell (p := ⟨b, off + p, none⟩) hbw).trans c0
  have i0 : ¬ (p : Int) = e := by omega
  have i0b : ((p : Int) == (e : Int)) = false := by simpa using i0
  have i1 : ¬ 128 + (m : Int) < 128 := by omega
  have i2 : (p : Int) < n := by omega
  have i3 : ¬ (192 : Int) ≤ 128 + (m : Int) := by omega
  have i4 : 128 + (m : Int) - 128 = m := by omega
  generalize 80 - d = dd
  obtain ⟨k, rfl⟩ : ∃ k, m = k + 55 := ⟨m - 55, by omega⟩
  rw [show k + 55 - 55 = k by omega] at *
  have ek : ((k + 55 : Nat) : Int) = (k : Int) + 55 := by omega
  rw [ek] at c0 i1 i3 i4
  have i6 : ¬ (k : Int) + 55 < 56 := by omega
  have i6b : (56 : Int) ≤ (k : Int) + 55 := by omega
  have i7 : (k : Int) + 55 - 55 = k := by omega
  clear ek
  obtain ⟨-, c1, hx1⟩ := h.vp.cell (i := p + 1) (by omega)
  replace c1 := ((below_alloc w (.cells #[.bool false, .slice none 0 0, .slice none 0 0, .int .i64 0, .int .i64 0, .int .i64 0] 75)).cell (p := ⟨b, off + (p + 1), none⟩) hbw).trans c1
  rw [show off + (p + 1) = off + p + 1 by omega] at c1
  have c1' := c1
  rw [show off + p + 1 = off + (p + 1) by omega] at c1'
  have hz : ¬ ((gd s (p + 1) : Nat) : Int) = 0 := by omega
  have hzb : (((gd s (p + 1) : Nat) : Int) == 0) = false := by simpa using hz
  have i8 : ¬ (e : Int) - ((p : Int) + 1) < k := by omega
  have i9 : (p : Int) + 1 < n := by omega
  have sb := slice_both (some ⟨b, off, none⟩) n c (p + 1) (p + 1 + k) (by omega) (by have := h.vp.cap; omega)
  have hc := (h.vp.keep (below_alloc w (.cells #[.bool false, .slice none 0 0, .slice none 0 0, .int .i64 0, .int .i64 0, .int .i64 0] 75))).cut (l := p + 1) (z := p + 1 + k) (by omega) (by omega)
  have hcl : (cut s (p + 1) (p + 1 + k)).length = k := by rw [cut_len (by have := h.vp.len; omega)]; omega
  have KN := rnum_any _ _ _ _ (c - (p + 1)) _ hc
  rw [hcl] at KN
  rw [show p + 1 + k - (p + 1) = k by omega] at sb
  generalize behind (some ⟨b, off, none⟩) c (p + 1) = bh at sb KN
  rw [show (((p + 1 : Nat)) : Int) = (p : Int) + 1 by omega, show (((p + 1 + k : Nat)) : Int) = (p : Int) + 1 + k by omega] at sb
  have es : sat (cut s (p + 1) (p + 1 + k)) = num (cut s (p + 1) (p + 1 + k)) := by unfold sat; omega
  rw [es] at KN
  generalize num (cut s (p + 1) (p + 1 + k)) = N at *
  have i10 : ¬ (1048576 : Int) < (N : Int) := by omega
  have i11 : (N : Int) < 56 := by omega
  clear h hg hc hcl es
  generalize gd s (p + 1) = y at *
  go_enter Try.func34, Try.ntmps34
  go_wp2_with (go_at_call 49; refine KN.mono ?_; rintro r w' ⟨rfl, rfl⟩)
  refine bodyPost_ret (res75 rfl _ rfl (heap_alloc_new _ _)) rfl ?_
  exact RPost.bad HR.out

set_option maxRecDepth 100000 in
set_option maxHeartbeats 1600000 in
theorem rread128_f (w : World) (a : Option Addr) (b off n c : Nat) (s : List Nat) (p e d m : Nat) (h : Rp w a b off n c s e d) (hp : p < e) (hg : gd s p = 128 + m) (hm : m < 64) (h1 : ¬ m < 56) (h2 : ¬ e - (p + 1) < m - 55) (h3 : gd s (p + 1) ≠ 0) (h4 : ¬ 1048576 < num (cut s (p + 1) (p + 1 + (m - 55)))) (h5 : ¬ num (cut s (p + 1) (p + 1 + (m - 55))) < 56) (h6 : e - (p + 1 + (m - 55)) < num (cut s (p + 1) (p + 1 + (m - 55)))) :
    Calls Try.prog 34 #[.slice a n c, .int .i64 p, .int .i64 e, .int .i64 ((80 - d : Nat) : Int)] w (RPost s d p e w) := by
  have HR : Hid (rd s d p e = .bad p 50) := by
    show _ = _
    rw [rd_eq, if_neg (by omega), if_neg (by omega), if_pos (by omega), show gd s p - 128 = m by omega]
    rw [rdHead, if_neg h1, if_neg h2, if_neg h3, if_neg h4, if_neg h5, if_pos h6]
  have hen := h.en
  obtain ⟨rfl, c0, hx⟩ := h.vp.cell (i := p) (by omega)
  have hbw : b < w.heap.size := World.block_lt_of_cell? _ _ c0
  have hn : n ≤ 1048576 := by have := h.vp.len; have := h.vp.small; omega
  rw [hg, show ((128 + m : Nat) : Int) = 128 + (m : Int) by omega] at c0
  replace c0 := ((below_alloc w (.cells #[.bool false, .slice none 0 0, .slice none 0 0, .int .i64 0, .int .i64 0, .int .i64 0] 75)).cell (p := ⟨b, off + p, none⟩) hbw).trans c0
  have i0 : ¬ (p : Int) = e := by omega
  have i0b : ((p : Int) == (e : Int)) = false := by simpa using i0
  have i1 : ¬ 128 + (m : Int) < 128 := by omega
  have i2 : (p : Int) < n := by omega
  have i3 : ¬ (192 : Int) ≤ 128 + (m : Int) := by omega
  have i4 : 128 + (m : Int) - 128 = m := by omega
  generalize 80 - d = dd
  obtain ⟨k, rfl⟩ : ∃ k, m = k + 55 := ⟨m - 55, by omega⟩
  rw [show k + 55 - 55 = k by omega] at *
  have ek : ((k + 55 : Nat) : Int) = (k : Int) + 55 := by omega
  rw [ek] at c0 i1 i3 i4
  have i6 : ¬ (k : Int) + 55 < 56 := by omega
  have i6b : (56 : Int) ≤ (k : Int) + 55 := by omega
  have i7 : (k : Int) + 55 - 55 = k := by omega
  clear ek
  obtain ⟨-, c1, hx1⟩ := h.vp.cell (i := p + 1) (by omega)
  replace c1 := ((below_alloc w (.cells #[.bool false, .slice none 0 0, .slice none 0 0, .int .i64 0, .int .i64 0, .int .i64 0] 75)).cell (p := ⟨b, off + (p + 1), none⟩) hbw).trans c1
  rw [show off + (p + 1) = off + p + 1 by omega] at c1
  have c1' := c1
  rw [show off + p + 1 = off + (p + 1) by omega] at c1'
  have hz : ¬ ((gd s (p + 1) : Nat) : Int) = 0 := by omega
  have hzb : (((gd s (p + 1) : Nat) : Int) == 0) = false := by simpa using hz
  have i8 : ¬ (e : Int) - ((p : Int) + 1) < k := by omega
  have i9 : (p : Int) + 1 < n := by omega
  have sb := slice_both (some ⟨b, off, none⟩) n c (p + 1) (p + 1 + k) (by omega) (by have := h.vp.cap; omega)
  have hc := (h.vp.keep (below_alloc w (.cells #[.bool false, .slice none 0 0, .slice none 0 0, .int .i64 0, .int .i64 0, .int .i64 0] 75))).cut (l := p + 1) (z := p + 1 + k) (by omega) (by omega)
  have hcl : (cut s (p + 1) (p + 1 + k)).length = k := by rw [cut_len (by have := h.vp.len; omega)]; omega
  have KN := rnum_any _ _ _ _ (c - (p + 1)) _ hc
  rw [hcl] at KN
  rw [show p + 1 + k - (p + 1) = k by omega] at sb
  generalize behind (some ⟨b, off, none⟩) c (p + 1) = bh at sb KN
  rw [show (((p + 1 : Nat)) : Int) = (p : Int) + 1 by omega, show (((p + 1 + k : Nat)) : Int) = (p : Int) + 1 + k by omega] at sb
  have es : sat (cut s (p + 1) (p + 1 + k)) = num (cut s (p + 1) (p + 1 + k)) := by unfold sat; omega
  rw [es] at KN
  generalize num (cut s (p + 1) (p + 1 + k)) = N at *
  have i10 : ¬ (1048576 : Int) < (N : Int) := by omega
  have i11 : ¬ (N : Int) < 56 := by omega
  have i12 : (e : Int) - ((p : Int) + 1 + k) < N := by omega
  clear h hg hc hcl es
  generalize gd s (p + 1) = y at *
  go_enter Try.func34, Try.ntmps34
  go_wp2_with (go_at_call 49; refine KN.mono ?_; rintro r w' ⟨rfl, rfl⟩)
  refine bodyPost_ret (res75 rfl _ rfl (heap_alloc_new _ _)) rfl ?_
  exact RPost.bad HR.out

set_option maxRecDepth 100000 in
set_option maxHeartbeats 1600000 in
theorem rread192_a (w : World) (a : Option Addr) (b off n c : Nat) (s : List Nat) (p e d m : Nat) (h : Rp w a b off n c s e d) (hp : p < e) (hg : gd s p = 192 + m) (hm : m < 64) (hd : d ≠ 0) (h1 : m < 56) (h2 : e - (p + 1) < m) :
    Calls Try.prog 34 #[.slice a n c, .int .i64 p, .int .i64 e, .int .i64 ((80 - d : Nat) : Int)] w (RPost s d p e w) := by
  have HR : Hid (rd s d p e = .bad p 50) := by
    show _ = _
    rw [rd_eq, if_neg (by omega), if_neg (by omega), if_neg (by omega), if_neg hd, show gd s p - 192 = m by omega]
    rw [rdHead, if_pos h1, if_pos h2]
  have hen := h.en
  obtain ⟨rfl, c0, hx⟩ := h.vp.cell (i := p) (by omega)
  have hbw : b < w.heap.size := World.block_lt_of_cell? _ _ c0
  have hn : n ≤ 1048576 := by have := h.vp.len; have := h.vp.small; omega
  rw [hg, show ((192 + m : Nat) : Int) = 192 + (m : Int) by omega] at c0
  replace c0 := ((below_alloc w (.cells #[.bool false, .slice none 0 0, .slice none 0 0, .int .i64 0, .int .i64 0, .int .i64 0] 75)).cell (p := ⟨b, off + p, none⟩) hbw).trans c0
  have i0 : ¬ (p : Int) = e := by omega
  have i0b : ((p : Int) == (e : Int)) = false := by simpa using i0
  have i1 : ¬ 192 + (m : Int) < 128 := by omega
  have i2 : (p : Int) < n := by omega
  have i3 : (192 : Int) ≤ 192 + (m : Int) := by omega
  have i4 : 192 + (m : Int) - 192 = m := by omega
  have i4b : 192 + (m : Int) - 128 = m + 64 := by omega
  obtain ⟨dd, edd⟩ : ∃ dd, dd = 80 - d := ⟨_, rfl⟩
  have hdd : dd + 1 ≤ 80 := by have := h.dep; omega
  rw [← edd]
  have i5 : ¬ (80 : Int) < (dd : Int) + 1 := by omega
  clear edd
  have i6 : (m : Int) < 56 := by omega
  have i6b : ¬ (56 : Int) ≤ (m : Int) := by omega
  have i8 : (e : Int) - ((p : Int) + 1) < m := by omega
  clear h hg
  go_enter Try.func34, Try.ntmps34
  go_wp2_with fail
  refine bodyPost_ret (res75 rfl _ rfl (heap_alloc_new _ _)) rfl ?_
  exact RPost.bad HR.out

set_option maxRecDepth 100000 in
set_option maxHeartbeats 1600000 in
theorem rread192_b (w : World) (a : Option Addr) (b off n c : Nat) (s : List Nat) (p e d m : Nat) (h : Rp w a b off n c s e d) (hp : p < e) (hg : gd s p = 192 + m) (hm : m < 64) (hd : d ≠ 0) (h1 : ¬ m < 56) (h2 : e - (p + 1) < m - 55) :
    Calls Try.prog 34 #[.slice a n c, .int .i64 p, .int .i64 e, .int .i64 ((80 - d : Nat) : Int)] w (RPost s d p e w) := by
  have HR : Hid (rd s d p e = .bad p 50) := by
    show _ = _
    rw [rd_eq, if_neg (by omega), if_neg (by omega), if_neg (by omega), if_neg hd, show gd s p - 192 = m by omega]
    rw [rdHead, if_neg h1, if_pos h2]
  have hen := h.en
  obtain ⟨rfl, c0, hx⟩ := h.vp.cell (i := p) (by omega)
  have hbw : b < w.heap.size := World.block_lt_of_cell? _ _ c0
  have hn : n ≤ 1048576 := by have := h.vp.len; have := h.vp.small; omega
  rw [hg, show ((192 + m : Nat) : Int) = 192 + (m : Int) by omega] at c0
  replace c0 := ((below_alloc w (.cells #[.bool false, .slice none 0 0, .slice none 0 0, .int .i64 0, .int .i64 0, .int .i64 0] 75)).cell (p := ⟨b, off + p, none⟩) hbw).trans c0
  have i0 : ¬ (p : Int) = e := by omega
  have i0b : ((p : Int) == (e : Int)) = false := by simpa using i0
  have i1 : ¬ 192 + (m : Int) < 128 := by omega
  have i2 : (p : Int) < n := by omega
  have i3 : (192 : Int) ≤ 192 + (m : Int) := by omega
  have i4 : 192 + (m : Int) - 192 = m := by omega
  have i4b : 192 + (m : Int) - 128 = m + 64 := by omega
  obtain ⟨dd, edd⟩ : ∃ dd, dd = 80 - d := ⟨_, rfl⟩
  have hdd : dd + 1 ≤ 80 := by have := h.dep; omega
  rw [← edd]
  have i5 : ¬ (80 : Int) < (dd : Int) + 1 := by omega
  clear edd
  obtain ⟨k, rfl⟩ : ∃ k, m = k + 55 := ⟨m - 55, by omega⟩
  rw [show k + 55 - 55 = k by omega] at *
  have ek : ((k + 55 : Nat) : Int) = (k : Int) + 55 := by omega
  rw [ek] at c0 i1 i3 i4
  have i6 : ¬ (k : Int) + 55 < 56 := by omega
  have i6b : (56 : Int) ≤ (k : Int) + 55 := by omega
  have i7 : (k : Int) + 55 - 55 = k := by omega
  clear ek
  have i8 : (e : Int) - ((p : Int) + 1) < k := by omega
  clear h hg
  go_enter Try.func34, Try.ntmps34
  go_wp2_with fail
  refine bodyPost_ret (res75 rfl _ rfl (heap_alloc_new _ _)) rfl ?_
  exact RPost.bad HR.out

set_option maxRecDepth 100000 in
set_option maxHeartbeats 1600000 in
theorem rread192_c (w : World) (a : Option Addr) (b off n c : Nat) (s : List Nat) (p e d m : Nat) (h : Rp w a b off n c s e d) (hp : p < e) (hg : gd s p = 192 + m) (hm : m < 64) (hd : d ≠ 0) (h1 : ¬ m < 56) (h2 : ¬ e - (p + 1) < m - 55) (h3 : gd s (p + 1) = 0) :
    Calls Try.prog 34 #[.slice a n c, .int .i64 p, .int .i64 e, .int .i64 ((80 - d : Nat) : Int)] w (RPost s d p e w) := by
  have HR : Hid (rd s d p e = .bad p 52) := by
    show _ = _
    rw [rd_eq, if_neg (by omega), if_neg (by omega), if_neg (by omega), if_neg hd, show gd s p - 192 = m by omega]
    rw [rdHead, if_neg h1, if_neg h2, if_pos h3]
  have hen := h.en
  obtain ⟨rfl, c0, hx⟩ := h.vp.cell (i := p) (by omega)
  have hbw : b < w.heap.size := World.block_lt_of_cell? _ _ c0
  have hn : n ≤ 1048576 := by have := h.vp.len; have := h.vp.small; omega
  rw [hg, show ((192 + m : Nat) : Int) = 192 + (m : Int) by omega] at c0
  replace c0 := ((below_alloc w (.cells #[.bool false, .slice none 0 0, .slice none 0 0, .int .i64 0, .int .i64 0, .int .i64 0] 75)).cell (p := ⟨b, off + p, none⟩) hbw).trans c0
  have i0 : ¬ (p : Int) = e := by omega
  have i0b : ((p : Int) == (e : Int)) = false := by simpa using i0
  have i1 : ¬ 192 + (m : Int) < 128 := by omega
  have i2 : (p : Int) < n := by omega
  have i3 : (192 : Int) ≤ 192 + (m : Int) := by omega
  have i4 : 192 + (m : Int) - 192 = m := by omega
  have i4b : 192 + (m : Int) - 128 = m + 64 := by omega
  obtain ⟨dd, edd⟩ : ∃ dd, dd = 80 - d := ⟨_, rfl⟩
  have hdd : dd + 1 ≤ 80 := by have := h.dep; omega
  rw [← edd]
  have i5 : ¬ (80 : Int) < (dd : Int) + 1 := by omega
  clear edd
  obtain ⟨k, rfl⟩ : ∃ k, m = k + 55 := ⟨m - 55, by omega⟩
  rw [show k + 55 - 55 = k by omega] at *
  have ek : ((k + 55 : Nat) : Int) = (k : Int) + 55 := by omega
  rw [ek] at c0 i1 i3 i4
  have i6 : ¬ (k : Int) + 55 < 56 := by omega
  have i6b : (56 : Int) ≤ (k : Int) + 55 := by omega
  have i7 : (k : Int) + 55 - 55 = k := by omega
  clear ek
  obtain ⟨-, c1, hx1⟩ := h.vp.cell (i := p + 1) (by omega)
  replace c1 := ((below_alloc w (.cells #[.bool false, .slice none 0 0, .slice none 0 0, .int .i64 0, .int .i64 0, .int .i64 0] 75)).cell (p := ⟨b, off + (p + 1), none⟩) hbw).trans c1
  rw [show off + (p + 1) = off + p + 1 by omega] at c1
  have c1' := c1
  rw [show off + p + 1 = off + (p + 1) by omega] at c1'
  rw [h3] at c1 c1'
  have i8 : ¬ (e : Int) - ((p : Int) + 1) < k := by omega
  have i9 : (p : Int) + 1 < n := by omega
  clear h hg
  go_enter Try.func34, Try.ntmps34
  go_wp2_with fail
  refine bodyPost_ret (res75 rfl _ rfl (heap_alloc_new _ _)) rfl ?_
  exact RPost.bad HR.out

set_option maxRecDepth 100000 in
set_option maxHeartbeats 1600000 in
theorem rread192_d (w : World) (a : Option Addr) (b off n c : Nat) (s : List Nat) (p e d m : Nat) (h : Rp w a b off n c s e d) (hp : p < e) (hg : gd s p = 192 + m) (hm : m < 64) (hd : d ≠ 0) (h1 : ¬ m < 56) (h2 : ¬ e - (p + 1) < m - 55) (h3 : gd s (p + 1) ≠ 0) (h4 : 1048576 < num (cut s (p + 1) (p + 1 + (m - 55)))) :
    Calls Try.prog 34 #[.slice a n c, .int .i64 p, .int .i64 e, .int .i64 ((80 - d : Nat) : Int)] w (RPost s d p e w) := by
  have HR : Hid (rd s d p e = .bad p 54) := by
    show _ = _
    rw [rd_eq, if_neg (by omega), if_neg (by omega), if_neg (by omega), if_neg hd, show gd s p - 192 = m by omega]
    rw [rdHead, if_neg h1, if_neg h2, if_neg h3, if_pos h4]
  have hen := h.en
  obtain ⟨rfl, c0, hx⟩ := h.vp.cell (i := p) (by omega)
  have hbw : b < w.heap.size := World.block_lt_of_cell? _ _ c0
  have hn : n ≤ 1048576 := by have := h.vp.len; have := h.vp.small; omega
  rw [hg, show ((192 + m : Nat) : Int) = 192 + (m : Int) by omega] at c0
  replace c0 := ((below_alloc w (.cells #[.bool false, .slice none 0 0, .slice none 0 0, .int .i64 0, .int .i64 0, .int .i64 0] 75)).cell (p := ⟨b, off + p, none⟩) hbw).trans c0
  have i0 : ¬ (p : Int) = e := by omega
  have i0b : ((p : Int) == (e : Int)) = false := by simpa using i0
  have i1 : ¬ 192 + (m : Int) < 128 := by omega
  have i2 : (p : Int) < n := by omega
  have i3 : (192 : Int) ≤ 192 + (m : Int) := by omega
  have i4 : 192 + (m : Int) - 192 = m := by omega
  have i4b : 192 + (m : Int) - 128 = m + 64 := by omega
  obtain ⟨dd, edd⟩ : ∃ dd, dd = 80 - d := ⟨_, rfl⟩
  have hdd : dd + 1 ≤ 80 := by have := h.dep; omega
  rw [← edd]
  have i5 : ¬ (80 : Int) < (dd : Int) + 1 := by omega
  clear edd
  obtain ⟨k, rfl⟩ : ∃ k, m = k + 55 := ⟨m - 55, by omega⟩
  rw [show k + 55 - 55 = k by omega] at *
  have ek : ((k + 55 : Nat) : Int) = (k : Int) + 55 := by omega
  rw [ek] at c0 i1 i3 i4
  have i6 : ¬ (k : Int) + 55 < 56 := by omega
  have i6b : (56 : Int) ≤ (k : Int) + 55 := by omega
  have i7 : (k : Int) + 55 - 55 = k := by omega
  clear ek
  obtain ⟨-, c1, hx1⟩ := h.vp.cell (i := p + 1) (by omega)
  replace c1 := ((below_alloc w (.cells #[.bool false, .slice none 0 0, .slice none 0 0, .int .i64 0, .int .i64 0, .int .i64 0] 75)).cell (p := ⟨b, off + (p + 1), none⟩) hbw).trans c1
  rw [show off + (p + 1) = off + p + 1 by omega] at c1
  have c1' := c1
  rw [show off + p + 1 = off + (p + 1) by omega] at c1'
  have hz : ¬ ((gd s (p + 1) : Nat) : Int) = 0 := by omega
  have hzb : (((gd s (p + 1) : Nat) : Int) == 0) = false := by simpa using hz
  have i8 : ¬ (e : Int) - ((p : Int) + 1) < k := by omega
  have i9 : (p : Int) + 1 < n := by omega
  have sb := slice_both (some ⟨b, off, none⟩) n c (p + 1) (p + 1 + k) (by omega) (by have := h.vp.cap; omega)
  have hc := (h.vp.keep (below_alloc w (.cells #[.bool false, .slice none 0 0, .slice none 0 0, .int .i64 0, .int .i64 0, .int .i64 0] 75))).cut (l := p + 1) (z := p + 1 + k) (by omega) (by omega)
  have hcl : (cut s (p + 1) (p + 1 + k)).length = k := by rw [cut_len (by have := h.vp.len; omega)]; omega
  have KN := rnum_any _ _ _ _ (c - (p + 1)) _ hc
  rw [hcl] at KN
  rw [show p + 1 + k - (p + 1) = k by omega] at sb
  generalize behind (some ⟨b, off, none⟩) c (p + 1) = bh at sb KN
  rw [show (((p + 1 : Nat)) : Int) = (p : Int) + 1 by omega, show (((p + 1 + k : Nat)) : Int) = (p : Int) + 1 + k by omega] at sb
  have es : sat (cut s (p + 1) (p + 1 + k)) = 1048577 := by unfold sat; omega
  rw [es] at KN
  clear h hg hc hcl es
  generalize gd s (p + 1) = y at *
  go_enter Try.func34, Try.ntmps34
  go_wp2_with (go_at_call 49; refine KN.mono ?_; rintro r w' ⟨rfl, rfl⟩)
  refine bodyPost_ret (res75 rfl _ rfl (heap_alloc_new _ _)) rfl ?_
  exact RPost.bad HR.out

set_option maxRecDepth 100000 in
set_option maxHeartbeats 1600000 in
theorem rread192_e (w : World) (a : Option Addr) (b off n c : Nat) (s : List Nat) (p e d m : Nat) (h : Rp w a b off n c s e d) (hp : p < e) (hg : gd s p = 192 + m) (hm : m < 64) (hd : d ≠ 0) (h1 : ¬ m < 56) (h2 : ¬ e - (p + 1) < m - 55) (h3 : gd s (p + 1) ≠ 0) (h5 : num (cut s (p + 1) (p + 1 + (m - 55))) < 56) :
    Calls Try.prog 34 #[.slice a n c, .int .i64 p, .int .i64 e, .int .i64 ((80 - d : Nat) : Int)] w (RPost s d p e w) := by
  have HR : Hid (rd s d p e = .bad p 52) := by
    show _ = _
    rw [rd_eq, if_neg (by omega), if_neg (by omega), if_neg (by omega), if_neg hd, show gd s p - 192 = m by omega]
    rw [rdHead, if_neg h1, if_neg h2, if_neg h3, if_neg (by omega), if_pos h5]
  have hen := h.en
  obtain ⟨rfl, c0, hx⟩ := h.vp.cell (i := p) (by omega)
  have hbw : b < w.heap.size := World.block_lt_of_cell? _ _ c0
  have hn : n ≤ 1048576 := by have := h.vp.len; have := h.vp.small; omega
  rw [hg, show ((192 + m : Nat) : Int) = 192 + (m : Int) by omega] at c0
  replace c0 := ((below_alloc w (.cells #[.bool false, .slice none 0 0, .slice none 0 0, .int .i64 0, .int .i64 0, .int .i64 0] 75)).cell (p := ⟨b, off + p, none⟩) hbw).trans c0
  have i0 : ¬ (p : Int) = e := by omega
  have i0b : ((p : Int) == (e : Int)) = false := by simpa using i0
  have i1 : ¬ 192 + (m : Int) < 128 := by omega
  have i2 : (p : Int) < n := by omega
  have i3 : (192 : Int) ≤ 192 + (m : Int) := by omega
  have i4 : 192 + (m : Int) - 192 = m := by omega
  have i4b : 192 + (m : Int) - 128 = m + 64 := by omega
  obtain ⟨dd, edd⟩ : ∃ dd, dd = 80 - d := ⟨_, rfl⟩
  have hdd : dd + 1 ≤ 80 := by have := h.dep; omega
  rw [← edd]
  have i5 : ¬ (80 : Int) < (dd : Int) + 1 := by omega
  clear edd
  obtain ⟨k, rfl⟩ : ∃ k, m = k + 55 := ⟨m - 55, by omega⟩
  rw [show k + 55 - 55 = k by omega] at *
  have ek : ((k + 55 : Nat) : Int) = (k : Int) + 55 := by omega
  rw [ek] at c0 i1 i3 i4
  have i6 : ¬ (k : Int) + 55 < 56 := by omega
  have i6b : (56 : Int) ≤ (k : Int) + 55 := by omega
  have i7 : (k : Int) + 55 - 55 = k := by omega
  clear ek
  obtain ⟨-, c1, hx1⟩ := h.vp.cell (i := p + 1) (by omega)
  replace c1 := ((below_alloc w (.cells #[.bool false, .slice none 0 0, .slice none 0 0, .int .i64 0, .int .i64 0, .int .i64 0] 75)).cell (p := ⟨b, off + (p + 1), none⟩) hbw).trans c1
  rw [show off + (p + 1) = off + p + 1 by omega] at c1
  have c1' := c1
  rw [show off + p + 1 = off + (p + 1) by omega] at c1'
  have hz : ¬ ((gd s (p + 1) : Nat) : Int) = 0 := by omega
  have hzb : (((gd s (p + 1) : Nat) : Int) == 0) = false := by simpa using hz
  have i8 : ¬ (e : Int) - ((p : Int) + 1) < k := by omega
  have i9 : (p : Int) + 1 < n := by omega
  have sb := slice_both (some ⟨b, off, none⟩) n c (p + 1) (p + 1 + k) (by omega) (by have := h.vp.cap; omega)
  have hc := (h.vp.keep (below_alloc w (.cells #[.bool false, .slice none 0 0, .slice none 0 0, .int .i64 0, .int .i64 0, .int .i64 0] 75))).cut (l := p + 1) (z := p + 1 + k) (by omega) (by omega)
  have hcl : (cut s (p + 1) (p + 1 + k)).length = k := by rw [cut_len (by have := h.vp.len; omega)]; omega
  have KN := rnum_any _ _ _ _ (c - (p + 1)) _ hc
  rw [hcl] at KN
  rw [show p + 1 + k - (p + 1) = k by omega] at sb
  generalize behind (some ⟨b, off, none⟩) c (p + 1) = bh at sb KN
  rw [show (((p + 1 : Nat)) : Int) = (p : Int) + 1 by omega, show (((p + 1 + k : Nat)) : Int) = (p : Int) + 1 + k by omega] at sb
  have es : sat (cut s (p + 1) (p + 1 + k)) = num (cut s (p + 1) (p + 1 + k)) := by unfold sat; omega
  rw [es] at KN
  generalize num (cut s (p + 1) (p + 1 + k)) = N at *
  have i10 : ¬ (1048576 : Int) < (N : Int) := by omega
  have i11 : (N : Int) < 56 := by omega
  clear h hg hc hcl es
  generalize gd s (p + 1) = y at *
  go_enter Try.func34, Try.ntmps34
  go_wp2_with (go_at_call 49; refine KN.mono ?_; rintro r w' ⟨rfl, rfl⟩)
  refine bodyPost_ret (res75 rfl _ rfl (heap_alloc_new _ _)) rfl ?_
  exact RPost.bad HR.out

set_option maxRecDepth 100000 in
set_option maxHeartbeats 1600000 in
theorem rread192_f (w : World) (a : Option Addr) (b off n c : Nat) (s : List Nat) (p e d m : Nat) (h : Rp w a b off n c s e d) (hp : p < e) (hg : gd s p = 192 + m) (hm : m < 64) (hd : d ≠ 0) (h1 : ¬ m < 56) (h2 : ¬ e - (p + 1) < m - 55) (h3 : gd s (p + 1) ≠ 0) (h4 : ¬ 1048576 < num (cut s (p + 1) (p + 1 + (m - 55)))) (h5 : ¬ num (cut s (p + 1) (p + 1 + (m - 55))) < 56) (h6 : e - (p + 1 + (m - 55)) < num (cut s (p + 1) (p + 1 + (m - 55)))) :
    Calls Try.prog 34 #[.slice a n c, .int .i64 p, .int .i64 e, .int .i64 ((80 - d : Nat) : Int)] w (RPost s d p e w) := by
  have HR : Hid (rd s d p e = .bad p 50) := by
    show _ = _
    rw [rd_eq, if_neg (by omega), if_neg (by omega), if_neg (by omega), if_neg hd, show gd s p - 192 = m by omega]
    rw [rdHead, if_neg h1, if_neg h2, if_neg h3, if_neg h4, if_neg h5, if_pos h6]
  have hen := h.en
  obtain ⟨rfl, c0, hx⟩ := h.vp.cell (i := p) (by omega)
  have hbw : b < w.heap.size := World.block_lt_of_cell? _ _ c0
  have hn : n ≤ 1048576 := by have := h.vp.len; have := h.vp.small; omega
  rw [hg, show ((192 + m : Nat) : Int) = 192 + (m : Int) by omega] at c0
  replace c0 := ((below_alloc w (.cells #[.bool false, .slice none 0 0, .slice none 0 0, .int .i64 0, .int .i64 0, .int .i64 0] 75)).cell (p := ⟨b, off + p, none⟩) hbw).trans c0
  have i0 : ¬ (p : Int) = e := by omega
  have i0b : ((p : Int) == (e : Int)) = false := by simpa using i0
  have i1 : ¬ 192 + (m : Int) < 128 := by omega
  have i2 : (p : Int) < n := by omega
  have i3 : (192 : Int) ≤ 192 + (m : Int) := by omega
  have i4 : 192 + (m : Int) - 192 = m := by omega
  have i4b : 192 + (m : Int) - 128 = m + 64 := by omega
  obtain ⟨dd, edd⟩ : ∃ dd, dd = 80 - d := ⟨_, rfl⟩
  have hdd : dd + 1 ≤ 80 := by have := h.dep; omega
  rw [← edd]
  have i5 : ¬ (80 : Int) < (dd : Int) + 1 := by omega
  clear edd
  obtain ⟨k, rfl⟩ : ∃ k, m = k + 55 := ⟨m - 55, by omega⟩
  rw [show k + 55 - 55 = k by omega] at *
  have ek : ((k + 55 : Nat) : Int) = (k : Int) + 55 := by omega
  rw [ek] at c0 i1 i3 i4
  have i6 : ¬ (k : Int) + 55 < 56 := by omega
  have i6b : (56 : Int) ≤ (k : Int) + 55 := by omega
  have i7 : (k : Int) + 55 - 55 = k := by omega
  clear ek
  obtain ⟨-, c1, hx1⟩ := h.vp.cell (i := p + 1) (by omega)
  replace c1 := ((below_alloc w (.cells #[.bool false, .slice none 0 0, .slice none 0 0, .int .i64 0, .int .i64 0, .int .i64 0] 75)).cell (p := ⟨b, off + (p + 1), none⟩) hbw).trans c1
  rw [show off + (p + 1) = off + p + 1 by omega] at c1
  have c1' := c1
  rw [show off + p + 1 = off + (p + 1) by omega] at c1'
  have hz : ¬ ((gd s (p + 1) : Nat) : Int) = 0 := by omega
  have hzb : (((gd s (p + 1) : Nat) : Int) == 0) = false := by simpa using hz
  have i8 : ¬ (e : Int) - ((p : Int) + 1) < k := by omega
  have i9 : (p : Int) + 1 < n := by omega
  have sb := slice_both (some ⟨b, off, none⟩) n c (p + 1) (p + 1 + k) (by omega) (by have := h.vp.cap; omega)
  have hc := (h.vp.keep (below_alloc w (.cells #[.bool false, .slice none 0 0, .slice none 0 0, .int .i64 0, .int .i64 0, .int .i64 0] 75))).cut (l := p + 1) (z := p + 1 + k) (by omega) (by omega)
  have hcl : (cut s (p + 1) (p + 1 + k)).length = k := by rw [cut_len (by have := h.vp.len; omega)]; omega
  have KN := rnum_any _ _ _ _ (c - (p + 1)) _ hc
  rw [hcl] at KN
  rw [show p + 1 + k - (p + 1) = k by omega] at sb
  generalize behind (some ⟨b, off, none⟩) c (p + 1) = bh at sb KN
  rw [show (((p + 1 : Nat)) : Int) = (p : Int) + 1 by omega, show (((p + 1 + k : Nat)) : Int) = (p : Int) + 1 + k by omega] at sb
  have es : sat (cut s (p + 1) (p + 1 + k)) = num (cut s (p + 1) (p + 1 + k)) := by unfold sat; omega
  rw [es] at KN
  generalize num (cut s (p + 1) (p + 1 + k)) = N at *
  have i10 : ¬ (1048576 : Int) < (N : Int) := by omega
  have i11 : ¬ (N : Int) < 56 := by omega
  have i12 : (e : Int) - ((p : Int) + 1 + k) < N := by omega
  clear h hg hc hcl es
  generalize gd s (p + 1) = y at *
  go_enter Try.func34, Try.ntmps34
  go_wp2_with (go_at_call 49; refine KN.mono ?_; rintro r w' ⟨rfl, rfl⟩)
  refine bodyPost_ret (res75 rfl _ rfl (heap_alloc_new _ _)) rfl ?_
  exact RPost.bad HR.out

set_option maxRecDepth 100000 in
set_option maxHeartbeats 1600000 in
theorem rread_deep (w : World) (a : Option Addr) (b off n c : Nat) (s : List Nat) (p e d m : Nat) (h : Rp w a b off n c s e d) (hp : p < e) (hg : gd s p = 192 + m) (hm : m < 64) (hd : d = 0) :
    Calls Try.prog 34 #[.slice a n c, .int .i64 p, .int .i64 e, .int .i64 ((80 - d : Nat) : Int)] w (RPost s d p e w) := by
  have HR : Hid (rd s d p e = .bad p 53) := by
    show _ = _
    rw [rd_eq, if_neg (by omega), if_neg (by omega), if_neg (by omega), if_pos hd]
  have hen := h.en
  obtain ⟨rfl, c0, hx⟩ := h.vp.cell (i := p) (by omega)
  have hbw : b < w.heap.size := World.block_lt_of_cell? _ _ c0
  have hn : n ≤ 1048576 := by have := h.vp.len; have := h.vp.small; omega
  rw [hg, show ((192 + m : Nat) : Int) = 192 + (m : Int) by omega] at c0
  replace c0 := ((below_alloc w (.cells #[.bool false, .slice none 0 0, .slice none 0 0, .int .i64 0, .int .i64 0, .int .i64 0] 75)).cell (p := ⟨b, off + p, none⟩) hbw).trans c0
  have i0 : ¬ (p : Int) = e := by omega
  have i0b : ((p : Int) == (e : Int)) = false := by simpa using i0
  have i1 : ¬ 192 + (m : Int) < 128 := by omega
  have i2 : (p : Int) < n := by omega
  have i3 : (192 : Int) ≤ 192 + (m : Int) := by omega
  subst hd
  clear h hg
  go_enter Try.func34, Try.ntmps34
  go_wp2_with fail
  refine bodyPost_ret (res75 rfl _ rfl (heap_alloc_new _ _)) rfl ?_
  exact RPost.bad HR.out
end Go.Proofs.Ytlpmcdnhnhgmpaa
