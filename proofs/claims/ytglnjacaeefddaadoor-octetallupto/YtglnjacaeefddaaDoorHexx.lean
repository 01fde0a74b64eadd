import Derived.Test.YtglnjacaeefddaaDoorUnh
namespace Go.Proofs.YtglnjacaeefddaaDoor
open Go.RowKit

/-- the digits of bytes -/
def hx (Z : Nat → Int) (i : Nat) : Int := dig (nib Z i).toNat
/-- their text -/
def hexS (n : Nat) (Z : Nat → Int) : ByteArray := strOfNums ((List.range (2 * n)).map (hx Z))
theorem hexS_size (n : Nat) (Z : Nat → Int) : (hexS n Z).size = 2 * n := by simp [hexS, strOfNums_size]
theorem nib_bd (n : Nat) (Z : Nat → Int) (h : ∀ i, i < n → 0 ≤ Z i ∧ Z i ≤ 255) (i : Nat) (hi : i < 2 * n) : 0 ≤ nib Z i ∧ nib Z i ≤ 15 := by
  have := h (i / 2) (by omega)
  unfold nib
  split <;> omega
theorem hx_bd (n : Nat) (Z : Nat → Int) (h : ∀ i, i < n → 0 ≤ Z i ∧ Z i ≤ 255) (i : Nat) (hi : i < 2 * n) : 0 ≤ hx Z i ∧ hx Z i ≤ 255 := by
  have := nib_bd n Z h i hi
  exact dig_bd _ (by omega)
theorem sv_strOfNums (xs : List Int) (i : Nat) (x : Int) (h : xs[i]? = some x) (hb : 0 ≤ x ∧ x ≤ 255) : sv (strOfNums xs) i = x := by
  unfold sv strOfNums
  simp only [List.getElem?_toArray, List.getElem?_map, h, Option.map_some, Option.getD_some]
  rw [UInt8.toNat_ofNat_of_lt' (by have : x.toNat < 256 := by omega
                                   simpa using this)]
  omega
theorem sv_hexS (n : Nat) (Z : Nat → Int) (h : ∀ i, i < n → 0 ≤ Z i ∧ Z i ≤ 255) (i : Nat) (hi : i < 2 * n) : sv (hexS n Z) i = hx Z i :=
  sv_strOfNums _ _ _ (by simp [hi]) (hx_bd n Z h i hi)

theorem hx_step {w wr : World} {N k : Nat} {Z : Nat → Int} (hR : NewRow w wr N (fun i => if i < 2 * k then hx Z i else 0)) {u v : Int} (hu : u = hx Z (2 * k)) (hv : v = hx Z (2 * k + 1)) :
    NewRow w ((wr.setCell ⟨w.heap.size, 2 * k, none⟩ (.int .u8 u)).setCell ⟨w.heap.size, 2 * k + 1, none⟩ (.int .u8 v)) N (fun i => if i < 2 * (k + 1) then hx Z i else 0) := by
  subst hu hv
  refine ((hR.set (2 * k) _).set (2 * k + 1) _).congr (fun i _ => ?_)
  by_cases e1 : i = 2 * k + 1
  · subst e1
    rw [if_pos rfl, if_pos (by omega)]
  · rw [if_neg e1]
    by_cases e2 : i = 2 * k
    · subst e2
      rw [if_pos rfl, if_pos (by omega)]
    · rw [if_neg e2]
      by_cases e3 : i < 2 * k
      · rw [if_pos e3, if_pos (by omega)]
      · rw [if_neg e3, if_neg (by omega)]
theorem hx_even (Z : Nat → Int) (k : Nat) : hx Z (2 * k) = dig (Z k / 16).toNat := by
  unfold hx nib; rw [if_pos (by omega), show 2 * k / 2 = k by omega]
theorem hx_odd (Z : Nat → Int) (k : Nat) : hx Z (2 * k + 1) = dig (Z k % 16).toNat := by
  unfold hx nib; rw [if_neg (by omega), show (2 * k + 1) / 2 = k by omega]

set_option maxHeartbeats 400000 in
theorem hex_any (w : World) (a : Option Addr) (b off n c : Nat) (Z : Nat → Int) (h : View w a b off n Z) (hn : n ≤ 140737488355328) (hT : Tab w) :
    Calls Tryd.prog 11 #[.slice a n c] w fun e w' => e = .returned (.string (hexS n Z)) ∧ Below w.heap.size w w' := by
  have hmk := run_make_row' (P := Tryd.prog) 22 5 (.int .u8 0) 1 Tryd.underlying22 Tryd.info5 rfl .i64 .i64 (2 * n) (by omega) (by omega)
  rw [show ((2 * n : Nat) : Int) = 2 * (n : Int) by omega] at hmk
  go_enter Tryd.func11, Tryd.ntmps11
  go_wp2
  clear hmk
  go_loopg [12] n (fun g i wr => ∃ k : Nat, k ≤ n ∧ g = n - k ∧ i = .int .i64 k ∧ NewRow w wr (2 * n) (fun i => if i < 2 * k then hx Z i else 0))
  case atStart => exact ⟨0, Nat.zero_le _, rfl, rfl, (NewRow.made w _).congr (fun i _ => by simp)⟩
  case round =>
    obtain ⟨k, hk, rfl, rfl, hR⟩ := hrel
    by_cases hkn : k < n
    · obtain rfl := h.at_ (by omega)
      have hb := h.lt (by omega)
      have c1 : wr.cell? ⟨b, off + k, none⟩ = some (.int .u8 (Z k)) := (hR.below.cell (p := ⟨b, off + k, none⟩) hb).trans (h.cell k hkn)
      obtain ⟨bd1, bd2⟩ := h.bd k hkn
      have hT' := hT.below hR.below hT.lt
      have t1 := hT' (Z k / 16).toNat (by omega)
      have t2 := hT' (Z k % 16).toNat (by omega)
      have t3 : ∀ v, (wr.setCell ⟨w.heap.size, 2 * k, none⟩ v).cell? ⟨0, (Z k % 16).toNat, none⟩ = some (.int .u8 (dig (Z k % 16).toNat)) := fun v => by
        rw [World.cell?_setCell_other _ _ _ _ (fun e => by have e2 : w.heap.size = 0 := congrArg Addr.block e; have := hT.lt; omega)]
        exact t2
      have s1 := hR.row.cell (i := 2 * k) (by omega)
      have s2 := hR.row.cell (i := 2 * k + 1) (by omega)
      have f1 := hR.row.frozen (2 * k)
      have f2 := hR.row.frozen (2 * k + 1)
      have R := hx_step hR (hx_even Z k).symm (hx_odd Z k).symm
      clear hT' hT
      go_wp2
      go_roundg (n - (k + 1))
      case measure => omega
      case rel => exact ⟨k + 1, by omega, rfl, by go_num, R⟩
    · have : k = n := by omega
      subst this
      have hcv := run_convert_bytes_arg (P := Tryd.prog) wr 22 5 Tryd.underlying22 Tryd.underlying5 w.heap.size 0 (2 * k) (2 * k) ((List.range (2 * k)).map (hx Z)) (by simp)
        (fun i hi => by rw [Nat.zero_add, hR.row.cell hi, if_pos hi]; simp [hi]) 9 Tryd.underlying9
      go_wp2
      go_ret
      exact ⟨rfl, hR.below⟩

end Go.Proofs.YtglnjacaeefddaaDoor
