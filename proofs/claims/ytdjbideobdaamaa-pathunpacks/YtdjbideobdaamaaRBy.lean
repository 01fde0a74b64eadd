/-
  cairnref01.Bytes.
-/
import Derived.Test.YtdjbideobdaamaaPk
import Derived.Deep.RegionHeld3
namespace Go.Proofs.Ytdjbideobdaamaa
open Go.RowKit

/-- two nibbles a byte -/
def join (Z : Nat → Int) (i : Nat) : Int := 16 * Z (2 * i) + Z (2 * i + 1)
theorem u8_mul16 (x : Int) (h0 : 0 ≤ x) (h1 : x ≤ 15) : IntKind.u8.wrap (16 * x) = 16 * x := u8_same _ (by omega) (by omega)

set_option maxRecDepth 100000 in
set_option maxHeartbeats 1600000 in
theorem rbytes_own (w : World) (a : Option Addr) (b off n c : Nat) (Z : Nat → Int) (h : View w a b off n Z) (hn : n ≤ 4194304) :
    Calls Try.prog 20 #[.slice a n c] w fun e w' =>
      ((n % 2 = 0 ∧ ∀ i, i < n → Z i ≤ 15) ∧ ∃ v, e = .returned (.tuple #[v, .int .i64 0]) ∧ w'.ownsRow w.heap.size 5 1 v (n / 2) (vals (join Z) (n / 2)) ∧ Below w.heap.size w w') ∨
      ((n % 2 = 1 ∨ ∃ i, i < n ∧ 15 < Z i) ∧ e = .returned (.tuple #[.slice none 0 0, .int .i64 2]) ∧ Below w.heap.size w w') := by
  obtain ⟨i0, hi0, hz0, hz1, hz2⟩ := info_parts Try.info5
  have HV : Hid (View w a b off n Z) := h
  clear h
  go_enter Try.func20, Try.ntmps20
  go_wp2
  go_loopg [4, 5] n (fun g v i wr => ∃ k : Nat, k ≤ n ∧ g = n - k ∧ i = .int .i64 k ∧ (0 < k → n % 2 = 0) ∧ (∀ i, i < k → Z i ≤ 15) ∧ wr.ownsRow w.heap.size 5 1 v (k / 2) (vals (join Z) (k / 2)) ∧ Below w.heap.size w wr)
  case atStart => exact ⟨0, Nat.zero_le _, rfl, rfl, fun h => absurd h (by omega), fun i hi => absurd hi (by omega), World.ownsRow_nil _ _ _ _, Below.refl _ _⟩
  case round =>
    obtain ⟨k, hk, rfl, rfl, hev, hle, hown, hbel⟩ := hrel
    have HE : Hid (0 < k → n % 2 = 0) := hev
    have HL : Hid (∀ i, i < k → Z i ≤ 15) := hle
    clear hev hle
    have hsz := hbel.size
    by_cases hkn : k < n
    · obtain rfl := HV.out.at_ (by omega)
      have hlt := HV.out.lt (by omega)
      have C : ∀ i, i < n → wr.cell? ⟨b, off + i, none⟩ = some (.int .u8 (Z i)) := fun i hi => (hbel.cell (p := ⟨b, off + i, none⟩) hlt).trans (HV.out.cell i hi)
      have HC : Hid (∀ i, i < n → wr.cell? ⟨b, off + i, none⟩ = some (.int .u8 (Z i))) := C
      clear C
      obtain ⟨b1, b2⟩ := HV.out.bd k hkn
      by_cases hbad : 15 < Z k
      · have c1 := HC.out k hkn
        have i1 : (k : Int) < (n : Int) := by omega
        go_wp2
        go_ret2
        exact Or.inr ⟨Or.inr ⟨k, hkn, hbad⟩, rfl, hbel⟩
      · have hok : Z k ≤ 15 := by omega
        clear hbad
        by_cases hodd : n % 2 = 1
        · have c1 := HC.out k hkn
          have i1 : (k : Int) < (n : Int) := by omega
          have e1 : ((n : Int) % 2 == 1) = true := by simp; omega
          go_wp2
          go_ret2
          exact Or.inr ⟨Or.inl hodd, rfl, hbel⟩
        · have hev2 : n % 2 = 0 := by omega
          have e1 : ((n : Int) % 2 == 1) = false := by simp; omega
          have HEV : Hid (n % 2 = 0) := hev2
          clear hodd hev2
          by_cases hk2 : k % 2 = 1
          · obtain ⟨j, rfl⟩ : ∃ j, k = 2 * j + 1 := ⟨k / 2, by omega⟩
            have c1 := HC.out (2 * j + 1) hkn
            have c2 := HC.out (2 * j) (by omega)
            obtain ⟨b3, b4⟩ := HV.out.bd (2 * j) (by omega)
            have b5 := HL.out (2 * j) (by omega)
            have i1 : 2 * (j : Int) + 1 < (n : Int) := by omega
            have i2 : 2 * (j : Int) < (n : Int) := by omega
            have e2 : ((2 * (j : Int) + 1) % 2 == 1) = true := by rw [beq_iff_eq]; omega
            rw [show (2 * j + 1) / 2 = j by omega] at hown
            have hne : ∀ v, wr.ownsRow w.heap.size 5 1 v j (vals (join Z) j) → v.ownBlock ≠ some b := fun v ho e => by have := (ho.lt b e).1; omega
            have ag := hne _ hown
            have HVT : Hid (vals (join Z) j ++ [.int .u8 (16 * Z (2 * j) + Z (2 * j + 1))] = vals (join Z) (j + 1)) := vals_succ (join Z) j
            have q1 := u8_mul16 (Z (2 * j)) b3 b5
            have q2 := u8_same (16 * Z (2 * j) + Z (2 * j + 1)) (by omega) (by omega)
            clear hne hk2
            have o1 : (0 : Int) ≤ 2 * (j : Int) := by omega
            have o2 : (0 : Int) ≤ 2 * (j : Int) + 1 := by omega
            have o3 : IntKind.i64.wrap (2 * (j : Int)) = 2 * (j : Int) := by rw [IntKind.wrap_i64]; omega
            have o4 : (2 * (j : Int)).toNat = 2 * j := by omega
            have o5 : (2 * (j : Int) + 1).toNat = 2 * j + 1 := by omega
            go_wp2
            go_region_held3 (fun w' => w'.cell? ⟨b, off + 2 * j, none⟩ = some (.int .u8 (Z (2 * j))) ∧ w'.cell? ⟨b, off + (2 * j + 1), none⟩ = some (.int .u8 (Z (2 * j + 1))))
              (first
                | go_keep
                | (refine ⟨?_, ?_⟩ <;> (rw [hgrow.cell_far _ (by simp; omega) (Ne.symm ag), World.cell?_drew, World.cell?_alloc_old _ _ _ (by show b ≠ wr.heap.size; omega)]; assumption)))
              ((refine step_append_lies _ (by rfl) _ _ _ (by rfl) w.heap.size 5 i0 _ 1 1 Try.underlying22 hi0 hz0 hz1 hz2 rfl (by omega) _ j _ (by rfl) ((hown.alloc _).drew) ⟨wr.heap.size, 0, none⟩ 1 1 [.int .u8 (16 * Z (2 * j) + Z (2 * j + 1))] (by rfl) (by rfl) (World.news_of_block (cs := #[.int .u8 (16 * Z (2 * j) + Z (2 * j + 1))]) (t := 5) (fr := (0, 0)) (heap_alloc_new wr _)) (by simp [Value.oneCell']) (by omega) (by unfold maxLen; omega) (by omega) (by simp; omega) (wr.heap.size + 1) (by simp) ?_; intro gg cap w1 hown1 hgrow hat hlt1))
            have hbel1 : Below w.heap.size w w1 := ((hbel.alloc hsz _).drew).grown hgrow (by simp; omega) (fun j hj => (hown.lt j hj).1)
            rw [HVT.out] at hown1
            clear hgrow hat hlt1 hown
            go_wp2
            go_roundg (n - (2 * j + 1 + 1))
            case measure => omega
            case rel => exact ⟨2 * j + 1 + 1, by omega, rfl, by go_num, fun _ => HEV.out, fun i hi => by by_cases ee : i = 2 * j + 1; (subst ee; exact hok); exact HL.out i (by omega), by rw [show (2 * j + 1 + 1) / 2 = j + 1 by omega]; exact hown1, hbel1⟩
          · have c1 := HC.out k hkn
            have i1 : (k : Int) < (n : Int) := by omega
            have e2 : ((k : Int) % 2 == 1) = false := by simp; omega
            clear hk2
            go_wp2
            go_roundg (n - (k + 1))
            case measure => omega
            case rel =>
              have e3 : (k : Int) % 2 ≠ 1 := by simpa using e2
              exact ⟨k + 1, by omega, rfl, by go_num, fun _ => HEV.out, fun i hi => by by_cases ee : i = k; (subst ee; exact hok); exact HL.out i (by omega), by rw [show (k + 1) / 2 = k / 2 by omega]; exact hown, hbel⟩
    · have : k = n := by omega
      subst this
      go_wp2
      go_ret2
      refine Or.inl ⟨⟨?_, HL.out⟩, _, rfl, hown, hbel⟩
      by_cases h0 : 0 < k
      · exact HE.out h0
      · omega

/-- bytes of nibbles -/
def Nbs (s : List Nat) : Prop := s.length % 2 = 0 ∧ ∀ i, i < s.length → gd s i ≤ 15
def jn (s : List Nat) : List Nat := lst (s.length / 2) (fun i => 16 * gd s (2 * i) + gd s (2 * i + 1))
theorem rbyt_yes {w : World} {v : Value} {s : List Nat} (h : Vb w v s) (hn : s.length ≤ 4194304) (hs : Nbs s) :
    Calls Try.prog 20 #[v] w fun e w' => ∃ u, e = .returned (.tuple #[u, .int .i64 0]) ∧ Ans w w' u (jn s) := by
  obtain ⟨a, b, off, c, rfl, hv, hc, _⟩ := h
  refine (rbytes_own w a b off s.length c _ hv hn).mono ?_
  rintro e w' (⟨_, u, rfl, ho, hb⟩ | ⟨hx, _⟩)
  · refine ⟨u, rfl, ?_, fun x hx => ?_, by unfold jn; rw [lst_len]; omega, hb⟩
    · unfold jn
      rw [lst_len, ← vals_bv, lst_len]
      rw [vals_congr (Z := fun i => ((gd (lst (s.length / 2) (fun i => 16 * gd s (2 * i) + gd s (2 * i + 1))) i : Nat) : Int)) (fun i hi => ?_)] at ho
      · exact ho
      · rw [lst_gd hi]
        show 16 * ((gd s (2 * i) : Nat) : Int) + ((gd s (2 * i + 1) : Nat) : Int) = _
        omega
    · unfold jn lst at hx
      obtain ⟨i, hi, rfl⟩ := List.mem_map.1 hx
      have hi' : i < s.length / 2 := by simpa using hi
      have := hs.2 (2 * i) (by omega)
      have := hs.2 (2 * i + 1) (by omega)
      omega
  · exfalso
    rcases hx with q | ⟨i, h1, h2⟩
    · have := hs.1
      omega
    · have := hs.2 i h1
      omega
theorem rbyt_no {w : World} {v : Value} {s : List Nat} (h : Vb w v s) (hn : s.length ≤ 4194304) (hs : ¬ Nbs s) :
    Calls Try.prog 20 #[v] w fun e w' => e = .returned (.tuple #[.slice none 0 0, .int .i64 2]) ∧ Below w.heap.size w w' := by
  obtain ⟨a, b, off, c, rfl, hv, hc, _⟩ := h
  refine (rbytes_own w a b off s.length c _ hv hn).mono ?_
  rintro e w' (⟨hx, _⟩ | ⟨_, rfl, hb⟩)
  · exact absurd ⟨hx.1, fun i hi => by have := hx.2 i hi; omega⟩ hs
  · exact ⟨rfl, hb⟩
end Go.Proofs.Ytdjbideobdaamaa
