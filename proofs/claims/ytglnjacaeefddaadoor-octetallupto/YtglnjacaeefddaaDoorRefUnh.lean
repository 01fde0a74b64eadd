import Derived.Test.YtglnjacaeefddaaDoorRefByt
import Derived.Test.YtglnjacaeefddaaDoorBackW
namespace Go.Proofs.YtglnjacaeefddaaDoor
open Go.RowKit

theorem rnibbles_any (w : World) (a : Option Addr) (b off n c : Nat) (Z : Nat → Int) (h : View w a b off n Z) (hn : n ≤ 1048576) :
    Calls Tryd.prog 18 #[.slice a n c] w fun e w' => ∃ a' g c', e = .returned (.slice a' (2 * n) c') ∧ View w' a' g 0 (2 * n) (nib Z) ∧ Below w.heap.size w w' :=
  (rnibbles_own w a b off n c Z h hn).mono fun e w' ⟨v, he, ho, hb⟩ => by
    obtain ⟨a', g, c', rfl, hv, _⟩ := view_own ho (fun i hi => by have := nib_bd n Z h.bd i hi; omega) (by omega) hb
    exact ⟨a', g, c', he, hv, hb⟩

theorem join_bd (n : Nat) (Z : Nat → Int) (h : ∀ i, i < n → 0 ≤ Z i) (h' : ∀ i, i < n → Z i ≤ 15) (i : Nat) (hi : i < n / 2) : 0 ≤ join Z i ∧ join Z i ≤ 255 := by
  have a1 := h (2 * i) (by omega)
  have a2 := h (2 * i + 1) (by omega)
  have b1 := h' (2 * i) (by omega)
  have b2 := h' (2 * i + 1) (by omega)
  unfold join
  omega

theorem rbytes_any (w : World) (a : Option Addr) (b off n c : Nat) (Z : Nat → Int) (h : View w a b off n Z) (hn : n ≤ 4194304) :
    Calls Tryd.prog 16 #[.slice a n c] w fun e w' =>
      ((n % 2 = 0 ∧ ∀ i, i < n → Z i ≤ 15) ∧ ∃ a' g c', e = .returned (.tuple #[.slice a' (n / 2) c', .int .i64 0]) ∧ View w' a' g 0 (n / 2) (join Z) ∧ Below w.heap.size w w') ∨
      ((n % 2 = 1 ∨ ∃ i, i < n ∧ 15 < Z i) ∧ e = .returned (.tuple #[.slice none 0 0, .int .i64 2]) ∧ Below w.heap.size w w') :=
  (rbytes_own w a b off n c Z h hn).mono fun e w' hh => by
    rcases hh with ⟨hg, v, he, ho, hb⟩ | hh
    · obtain ⟨a', g, c', rfl, hv, _⟩ := view_own ho (fun i hi => join_bd n Z (fun i hi => (h.bd i hi).1) hg.2 i hi) (by omega) hb
      exact Or.inl ⟨hg, a', g, c', he, hv, hb⟩
    · exact Or.inr hh

theorem dgt_bd (c : Int) : 0 ≤ dgt c ∧ dgt c ≤ 16 := by
  unfold dgt
  split
  · rename_i h
    have := val_dig c h
    omega
  · omega
theorem dgt_dig (c : Int) : dgt c ≤ 15 ↔ IsDig c := by
  unfold dgt IsDig
  constructor
  · intro h
    split at h
    · assumption
    · omega
  · intro h
    rw [if_pos h]
    have := val_dig c h
    omega
theorem dgt_val (c : Int) (h : IsDig c) : dgt c = val c := by
  unfold IsDig at h
  unfold dgt
  rw [if_pos h]

set_option maxRecDepth 100000 in
set_option maxHeartbeats 1600000 in
theorem runhex_any (w : World) (s : ByteArray) (hs : s.size ≤ 1048576) :
    Calls Tryd.prog 23 #[.string s] w fun e w' =>
      ((s.size % 2 = 0 ∧ ∀ i, i < s.size → IsDig (sv s i)) ∧ ∃ a' g c', e = .returned (.tuple #[.slice a' (s.size / 2) c', .int .i64 0]) ∧ View w' a' g 0 (s.size / 2) (unh s) ∧ Below w.heap.size w w') ∨
      ((s.size % 2 = 1 ∨ ∃ i, i < s.size ∧ ¬ IsDig (sv s i)) ∧ e = .returned (.tuple #[.slice none 0 0, .int .i64 10]) ∧ Below w.heap.size w w') := by
  obtain ⟨i0, hi0, hz0, hz1, hz2⟩ := info_parts Tryd.info5
  go_enter Tryd.func23, Tryd.ntmps23
  go_wp2
  go_loopg [4, 5] s.size (fun g v i wr => ∃ k : Nat, k ≤ s.size ∧ g = s.size - k ∧ i = .int .i64 k ∧ wr.ownsRow w.heap.size 5 1 v k (vals (fun i => dgt (sv s i)) k) ∧ Below w.heap.size w wr)
  case atStart => exact ⟨0, Nat.zero_le _, rfl, rfl, World.ownsRow_nil _ _ _ _, Below.refl _ _⟩
  case round =>
    obtain ⟨k, hk, rfl, rfl, hown, hbel⟩ := hrel
    have hsz := hbel.size
    by_cases hkn : k < s.size
    · have i1 : (k : Int) < (s.size : Int) := by omega
      go_wp2_with fail
      refine (rdigit_any _ _).mono ?_
      rintro e w' ⟨rfl, rfl⟩
      rw [sv_at]
      have HVT : Hid (vals (fun i => dgt (sv s i)) k ++ [.int .u8 (dgt (sv s k))] = vals (fun i => dgt (sv s i)) (k + 1)) := vals_succ (fun i => dgt (sv s i)) k
      go_wp2_with (first
        | (at_builtin; refine wpList_append_lies _ rfl _ _ 22 rfl w.heap.size 5 i0 (.int .u8 0) 1 1 Tryd.underlying22 hi0 hz0 hz1 hz2 rfl (by decide) _ k _ rfl (hown.alloc _) ⟨_, 0, none⟩ 1 1 [.int .u8 (dgt (sv s k))] rfl (by rfl) (World.news_of_block (cs := #[.int .u8 (dgt (sv s k))]) (t := 5) (fr := (0, 0)) (heap_alloc_new _ _)) (by simp [Value.oneCell']) (by decide) (by unfold maxLen; omega) (by omega) (by simp; omega) _ rfl ?_)
        | fail)
      intro gg cap w1 hown1 hgrow hat hlt1
      have hbel1 : Below w.heap.size w w1 := (hbel.alloc hsz _).grown hgrow (by simp; omega) (fun j hj => (hown.lt j hj).1)
      rw [HVT.out] at hown1
      clear hgrow hat hlt1 hown
      go_wp2
      go_roundg (s.size - (k + 1))
      case measure => omega
      case rel => exact ⟨k + 1, by omega, rfl, by go_num, hown1, hbel1⟩
    · have hks : k = s.size := by omega
      subst hks
      obtain ⟨a', g, c', hv, hV, _⟩ := view_own hown (fun i _ => by have := dgt_bd (sv s i); omega) (by omega) hbel
      go_wp2_with fail
      rw [hv]
      refine (rbytes_any _ _ _ _ _ _ _ hV (by omega)).mono ?_
      rintro e w' (⟨⟨g1, g2⟩, a2, gg, c2, rfl, hV2, hb2⟩ | ⟨hbad, rfl, hb2⟩)
      · have hd : ∀ i, i < s.size → IsDig (sv s i) := fun i hi => (dgt_dig _).1 (g2 i hi)
        have hbel2 := hbel.trans (hb2.mono hsz)
        have hV3 := hV2.congr (Y := unh s) (fun i hi => by
          unfold join unh
          dsimp only
          rw [dgt_val _ (hd (2 * i) (by omega)), dgt_val _ (hd (2 * i + 1) (by omega))])
        clear hV hV2 hb2 hown hv
        go_wp2
        go_ret2
        exact Or.inl ⟨⟨g1, hd⟩, a2, gg, c2, rfl, hV3, hbel2⟩
      · have hbel2 := hbel.trans (hb2.mono hsz)
        have hb : s.size % 2 = 1 ∨ ∃ i, i < s.size ∧ ¬ IsDig (sv s i) := by
          rcases hbad with h | ⟨i, hi, h⟩
          · exact Or.inl h
          · exact Or.inr ⟨i, hi, fun hd => by have := (dgt_dig _).2 hd; omega⟩
        clear hV hb2 hown hv hbad
        go_wp2
        go_ret2
        exact Or.inr ⟨hb, rfl, hbel2⟩

end Go.Proofs.YtglnjacaeefddaaDoor
