/-
  cairnref01.Nibbles.
-/
import Derived.Test.YtdjbideobdaamaaFm
import Derived.Deep.RegionHeld3
namespace Go.Proofs.Ytdjbideobdaamaa
open Go.RowKit

theorem u8_quo (x : Int) (h0 : 0 ≤ x) (h1 : x ≤ 255) : IntKind.u8.wrap (x.tdiv 16) = x / 16 := by
  rw [Int.tdiv_eq_ediv_of_nonneg h0]
  simp [IntKind.wrap, IntKind.signed, IntKind.bits]
  omega
theorem u8_rem (x : Int) (h0 : 0 ≤ x) (_ : x ≤ 255) : IntKind.u8.wrap (x.tmod 16) = x % 16 := by
  rw [Int.tmod_eq_emod_of_nonneg h0]
  simp [IntKind.wrap, IntKind.signed, IntKind.bits]
  omega
/-- the nibbles of bytes -/
def nibI (Z : Nat → Int) (i : Nat) : Int := if i % 2 = 0 then Z (i / 2) / 16 else Z (i / 2) % 16
set_option maxRecDepth 100000 in
set_option maxHeartbeats 1600000 in
theorem rnibbles_own (w : World) (a : Option Addr) (b off n c : Nat) (Z : Nat → Int) (h : View w a b off n Z) (hn : n ≤ 1048576) :
    Calls Try.prog 21 #[.slice a n c] w fun e w' => ∃ v, e = .returned v ∧ w'.ownsRow w.heap.size 5 1 v (2 * n) (vals (nibI Z) (2 * n)) ∧ Below w.heap.size w w' := by
  obtain ⟨i0, hi0, hz0, hz1, hz2⟩ := info_parts Try.info5
  have HV : Hid (View w a b off n Z) := h
  clear h
  go_enter Try.func21, Try.ntmps21
  go_wp2
  go_loopg [3, 4] n (fun g v i wr => ∃ k : Nat, k ≤ n ∧ g = n - k ∧ i = .int .i64 k ∧ wr.ownsRow w.heap.size 5 1 v (2 * k) (vals (nibI Z) (2 * k)) ∧ Below w.heap.size w wr)
  case atStart => exact ⟨0, Nat.zero_le _, rfl, rfl, World.ownsRow_nil _ _ _ _, Below.refl _ _⟩
  case round =>
    obtain ⟨k, hk, rfl, rfl, hown, hbel⟩ := hrel
    have hsz := hbel.size
    by_cases hkn : k < n
    · obtain rfl := HV.out.at_ (by omega)
      have hlt := HV.out.lt (by omega)
      have c1 : wr.cell? ⟨b, off + k, none⟩ = some (.int .u8 (Z k)) := (hbel.cell (p := ⟨b, off + k, none⟩) hlt).trans (HV.out.cell k hkn)
      obtain ⟨b1, b2⟩ := HV.out.bd k hkn
      have i1 : (k : Int) < (n : Int) := by omega
      have i0' : (0 : Int) ≤ (k : Int) := by omega
      have q1 := u8_quo (Z k) b1 b2
      have q2 := u8_rem (Z k) b1 b2
      have q5 : (Z k).tmod 16 = Z k % 16 := Int.tmod_eq_emod_of_nonneg b1
      have e1 : nibI Z (2 * k) = Z k / 16 := by unfold nibI; rw [if_pos (by omega), show 2 * k / 2 = k by omega]
      have e2 : nibI Z (2 * k + 1) = Z k % 16 := by unfold nibI; rw [if_neg (by omega), show (2 * k + 1) / 2 = k by omega]
      have hv := vals_two (nibI Z) (2 * k)
      rw [e1, e2] at hv
      have HVT : Hid (vals (nibI Z) (2 * k) ++ [.int .u8 (Z k / 16), .int .u8 (Z k % 16)] = vals (nibI Z) (2 * k + 2)) := hv
      clear hv e1 e2
      have hne : ∀ v, wr.ownsRow w.heap.size 5 1 v (2 * k) (vals (nibI Z) (2 * k)) → v.ownBlock ≠ some b := fun v ho e => by have := (ho.lt b e).1; omega
      have ag := hne _ hown
      clear hne
      go_wp2
      go_region_held3 (fun w' => w'.cell? ⟨b, off + k, none⟩ = some (.int .u8 (Z k)))
        (first
          | go_keep
          | (rw [hgrow.cell_far _ (by simp; omega) (Ne.symm ag), World.cell?_drew, World.cell?_alloc_old _ _ _ (by show b ≠ wr.heap.size; omega)]; exact c1))
        ((refine step_append_lies _ (by rfl) _ _ _ (by rfl) w.heap.size 5 i0 _ 1 1 Try.underlying22 hi0 hz0 hz1 hz2 rfl (by omega) _ (2 * k) _ (by rfl) ((hown.alloc _).drew) ⟨wr.heap.size, 0, none⟩ 2 2 [.int .u8 (Z k / 16), .int .u8 (Z k % 16)] (by rfl) (by rfl) (World.news_of_block (cs := #[.int .u8 (Z k / 16), .int .u8 (Z k % 16)]) (t := 5) (fr := (0, 0)) (heap_alloc_new wr _)) (by simp [Value.oneCell']) (by omega) (by unfold maxLen; omega) (by omega) (by simp; omega) (wr.heap.size + 1) (by simp) ?_; intro gg cap w1 hown1 hgrow hat hlt1))
      have hbel1 : Below w.heap.size w w1 := ((hbel.alloc hsz _).drew).grown hgrow (by simp; omega) (fun j hj => (hown.lt j hj).1)
      rw [HVT.out] at hown1
      clear hgrow hat hlt1 hown
      go_wp2
      go_roundg (n - (k + 1))
      case measure => omega
      case rel => exact ⟨k + 1, by omega, rfl, by go_num, by rw [show 2 * (k + 1) = 2 * k + 2 by omega]; exact hown1, hbel1⟩
    · have : k = n := by omega
      subst this
      go_wp2
      go_ret
      exact ⟨_, rfl, hown, hbel⟩

theorem rnib_any {w : World} {v : Value} {s : List Nat} (h : Vb w v s) (hn : s.length ≤ 1048576) :
    Calls Try.prog 21 #[v] w fun e w' => ∃ u, e = .returned u ∧ Ans w w' u (lst (2 * s.length) (nib s)) := by
  obtain ⟨a, b, off, c, rfl, hv, hc, _⟩ := h
  refine (rnibbles_own w a b off s.length c _ hv hn).mono ?_
  rintro e w' ⟨u, rfl, ho, hb⟩
  refine ⟨u, rfl, ?_, fun x hx => ?_, by rw [lst_len]; omega, hb⟩
  · rw [lst_len, ← vals_bv, lst_len]
    rw [vals_congr (Z := fun i => ((gd (lst (2 * s.length) (nib s)) i : Nat) : Int)) (fun i hi => ?_)] at ho
    · exact ho
    · rw [lst_gd hi]
      show (if i % 2 = 0 then ((gd s (i / 2) : Nat) : Int) / 16 else ((gd s (i / 2) : Nat) : Int) % 16) = _
      unfold nib
      split <;> omega
  · unfold lst at hx
    obtain ⟨i, -, rfl⟩ := List.mem_map.1 hx
    have := nib_le (vw_ok hv).2 i
    omega
end Go.Proofs.Ytdjbideobdaamaa
