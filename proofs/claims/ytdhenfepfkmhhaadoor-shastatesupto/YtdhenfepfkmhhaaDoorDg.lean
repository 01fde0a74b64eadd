/-
  A hash as a text of hexadecimal digits.
-/
import Derived.Test.YtdhenfepfkmhhaaDoorSm
import Derived.Deep.RegionHeld3
import Derived.Deep.AppendLies
import Derived.Laws.AppendOwnNone
import Derived.Deep.DeepHandedRow
import Derived.ProofKit
namespace Go.Proofs.YtdhenfepfkmhhaaDoor
open Go.RowKit

/-- the first j of a row as values -/
def vals (Y : Nat → Int) (j : Nat) : List Value := (List.range j).map (fun i => Value.int .u8 (Y i))
theorem vals_length (Y : Nat → Int) (j : Nat) : (vals Y j).length = j := by simp [vals]
theorem vals_succ (Y : Nat → Int) (j : Nat) : vals Y j ++ [.int .u8 (Y j)] = vals Y (j + 1) := by
  unfold vals
  rw [List.range_succ]
  simp
theorem vals_two (Y : Nat → Int) (j : Nat) : vals Y j ++ [.int .u8 (Y j), .int .u8 (Y (j + 1))] = vals Y (j + 2) := by
  rw [show j + 2 = (j + 1) + 1 by omega, ← vals_succ Y (j + 1), ← vals_succ Y j]
  simp
/-- what a value that owns a row of bytes is good for -/
theorem view_own {w' : World} {B : Nat} {v : Value} {n : Nat} {Y : Nat → Int} (h : w'.ownsRow B 5 1 v n (vals Y n)) (hb : ∀ i, i < n → 0 ≤ Y i ∧ Y i ≤ 255) (hn : n ≤ 281474976710656) :
    ∃ a g c, v = .slice a n c ∧ View w' a g 0 n Y ∧ n ≤ c ∧ (a ≠ none → B ≤ g ∧ a = some ⟨g, 0, none⟩) := by
  rcases h.2 with ⟨rfl, h0⟩ | ⟨g, cap, cur, rfl, hlt, hcs⟩
  · subst h0
    exact ⟨none, 0, 0, rfl, ⟨fun h => absurd h (by omega), fun i h => absurd h (by omega), fun i h => absurd h (by omega), by omega⟩, by omega, fun h => absurd rfl h⟩
  · refine ⟨some ⟨g, 0, none⟩, g, cap, rfl, ⟨fun _ => rfl, fun i hi => ?_, hb, hn⟩, hcs.2.1, fun _ => ⟨hlt, rfl⟩⟩
    rw [Nat.zero_add, h.cellAt i (by omega)]
    simp [vals, hi]

/-- the text of bytes -/
def str (n : Nat) (Z : Nat → Int) : ByteArray := strOfNums ((List.range n).map Z)
theorem convert_view {w : World} {a : Option Addr} {b off n : Nat} {Z : Nat → Int} (h : View w a b off n Z) (c : Nat) :
    (convert 24 9 (.slice a n c)).run Tryd.prog w = .ok (.string (str n Z)) w := by
  by_cases hn : n = 0
  · subst hn
    rw [run_convert_bytes_string w 24 9 5 _ 0 c Tryd.underlying24 Tryd.underlying5 Tryd.underlying9]
    cases a with
    | none => simp [Conv.bytesToString, str, strOfNums]; rfl
    | some p =>
      rw [run_bytesToString w p 0 c [] (by simpa using run_loadCells_list (P := Tryd.prog) w p [] (fun j v hj => by simp at hj))]
      simp [str, strOfNums]; rfl
  · obtain rfl := h.at_ (by omega)
    exact run_convert_bytes_arg (P := Tryd.prog) w 24 5 Tryd.underlying24 Tryd.underlying5 b off n c ((List.range n).map Z) (by simp) (fun i hi => by rw [h.cell i hi]; simp [hi]) 9 Tryd.underlying9
def dgc (v : Nat) : Nat := if v < 10 then 48 + v else 87 + v
def dgs (s : W8) (i : Nat) : Int := if i % 2 = 0 then (dgc (hb s (i / 2) / 16) : Nat) else (dgc (hb s (i / 2) % 16) : Nat)
def hexS : ByteArray := ⟨#[48, 49, 50, 51, 52, 53, 54, 55, 56, 57, 97, 98, 99, 100, 101, 102]⟩
theorem hexS_at : ∀ v, v < 16 → hexS[v]? = some (UInt8.ofNat (dgc v)) := by decide
theorem run_index_hex (w : World) (v : Nat) (hv : v < 16) : (Instr.index 9 (.string hexS) (.int .u8 (v : Int))).run Tryd.prog w = .ok (.int .u8 ((dgc v : Nat) : Int)) w := by
  have hx := hexS_at v hv
  have hd : dgc v < 256 := by unfold dgc; split <;> omega
  simp [Instr.index, asIntOf, Sem.run_bind, run_underlying Tryd.underlying9, hx]
  omega
theorem dgs_bd (s : W8) (i : Nat) : 0 ≤ dgs s i ∧ dgs s i ≤ 255 := by
  have h1 : hb s (i / 2) / 16 < 16 := by have : hb s (i / 2) < 256 := Nat.mod_lt _ (by decide); omega
  have h2 : hb s (i / 2) % 16 < 16 := by omega
  unfold dgs dgc
  split <;> split <;> omega
theorem u8_quo (z : Int) (h1 : 0 ≤ z) (h2 : z ≤ 255) : z / 16 ≤ 15 := by omega

set_option maxRecDepth 100000 in
set_option maxHeartbeats 1600000 in
theorem digits_any (w : World) (s : W8) :
    Calls Tryd.prog 16 #[.agg (hashA s)] w fun e w' => e = .returned (.string (str 64 (dgs s))) ∧ Below w.heap.size w w' := by
  obtain ⟨i0, hi0, hz0, hz1, hz2⟩ := info_parts Tryd.info5
  have r0 : (w.alloc (.cells (hashA s) 26)).rowIs w.heap.size 26 32 (fun i => .int .u8 (hb s i)) := by
    have := World.rowIs_alloc w (hashA s) 26 (fun i => .int .u8 (hb s i)) (fun i hi => hashA_cell s i (by rw [hashA_size] at hi; exact hi))
    rwa [hashA_size] at this
  obtain ⟨W, hW⟩ : ∃ x, x = w.alloc (.cells (hashA s) 26) := ⟨_, rfl⟩
  have HW : Hid (W = w.alloc (.cells (hashA s) 26) ∧ W.rowIs w.heap.size 26 32 (fun i => .int .u8 (hb s i)) ∧ W.heap.size = w.heap.size + 1) := by
    refine ⟨hW, ?_, ?_⟩
    · rw [hW]; exact r0
    · rw [hW]; simp
  clear r0
  go_enter Tryd.func16, Tryd.ntmps16
  go_wp2
  rw [← hW]
  clear hW
  go_loopg [3, 4] 32 (fun g v i wr => ∃ k : Nat, k ≤ 32 ∧ g = 32 - k ∧ i = .int .i64 k ∧ wr.ownsRow (w.heap.size + 1) 5 1 v (2 * k) (vals (dgs s) (2 * k)) ∧ Below (w.heap.size + 1) W wr)
  case atStart => exact ⟨0, Nat.zero_le _, rfl, rfl, World.ownsRow_nil _ _ _ _, Below.refl _ _⟩
  case round =>
    obtain ⟨k, hk, rfl, rfl, hown, hbel⟩ := hrel
    have hsz := hbel.size
    rw [HW.out.2.2] at hsz
    by_cases hkn : k < 32
    · have c1 : wr.cell? ⟨w.heap.size, k, none⟩ = some (.int .u8 (hb s k)) := (hbel.cell (p := ⟨w.heap.size, k, none⟩) (by show w.heap.size < w.heap.size + 1; omega)).trans (HW.out.2.1.cell hkn)
      have bz : hb s k < 256 := Nat.mod_lt _ (by decide)
      have e1 : dgs s (2 * k) = ((dgc (hb s k / 16) : Nat) : Int) := by unfold dgs; rw [if_pos (by omega), show 2 * k / 2 = k by omega]
      have e2 : dgs s (2 * k + 1) = ((dgc (hb s k % 16) : Nat) : Int) := by unfold dgs; rw [if_neg (by omega), show (2 * k + 1) / 2 = k by omega]
      obtain ⟨z, hz⟩ : ∃ z, z = hb s k := ⟨_, rfl⟩
      have hv := vals_two (dgs s) (2 * k)
      rw [e1, e2] at hv
      rw [← hz] at c1 bz hv
      obtain ⟨d1, hd1⟩ : ∃ d, d = dgc (z / 16) := ⟨_, rfl⟩
      obtain ⟨d2, hd2⟩ : ∃ d, d = dgc (z % 16) := ⟨_, rfl⟩
      rw [← hd1] at hv
      rw [← hd2] at hv
      have x1 : ∀ w0, (Instr.index 9 (.string hexS) (.int .u8 ((z : Int) / 16))).run Tryd.prog w0 = .ok (.int .u8 ((d1 : Nat) : Int)) w0 := fun w0 => by
        have e := run_index_hex w0 (z / 16) (by omega)
        rw [← hd1] at e
        rw [← e]
        simp
      have x2 : ∀ w0, (Instr.index 9 (.string hexS) (.int .u8 ((z : Int) % 16))).run Tryd.prog w0 = .ok (.int .u8 ((d2 : Nat) : Int)) w0 := fun w0 => by
        have e := run_index_hex w0 (z % 16) (by omega)
        rw [← hd2] at e
        rw [← e]
        simp
      have HVT : Hid (vals (dgs s) (2 * k) ++ [.int .u8 (d1 : Int), .int .u8 (d2 : Int)] = vals (dgs s) (2 * k + 2)) := hv
      clear hv e1 e2 hz hd1 hd2
      unfold hexS at x1 x2
      have hne : ∀ v, wr.ownsRow (w.heap.size + 1) 5 1 v (2 * k) (vals (dgs s) (2 * k)) → v.ownBlock ≠ some w.heap.size := fun v ho e => by have := (ho.lt _ e).1; omega
      have ag := hne _ hown
      clear hne
      have q2 : bits .and .u8 (z : Int) 15 = (z : Int) % 16 := by
        have e := u8_and_nat z 15 bz (by decide)
        rw [nat_mask4] at e
        exact e.trans (by simp)
      have g1 : (0 : Int) ≤ (k : Int) := by omega
      have g2 : (k : Int) < 32 := by omega
      have g3 : (0 : Int) ≤ (z : Int) := by omega
      have g4 : (z : Int) ≤ 255 := by omega
      go_wp2
      go_region_held3 (fun w' => w'.cell? ⟨w.heap.size, k, none⟩ = some (.int .u8 (z : Int)))
        (first
          | go_keep
          | (rw [hgrow.cell_far _ (by simp; omega) (Ne.symm ag), World.cell?_drew, World.cell?_alloc_old _ _ _ (by show w.heap.size ≠ wr.heap.size; omega)]; exact c1))
        ((refine step_append_lies _ (by rfl) _ _ _ (by rfl) (w.heap.size + 1) 5 i0 _ 1 1 Tryd.underlying24 hi0 hz0 hz1 hz2 rfl (by omega) _ (2 * k) _ (by rfl) ((hown.alloc _).drew) ⟨wr.heap.size, 0, none⟩ 2 2 [.int .u8 (d1 : Int), .int .u8 (d2 : Int)] (by rfl) (by rfl) (World.news_of_block (cs := #[.int .u8 (d1 : Int), .int .u8 (d2 : Int)]) (t := 5) (fr := (0, 0)) (heap_alloc_new wr _)) (by simp [Value.oneCell']) (by omega) (by unfold maxLen; omega) (by omega) (by simp; omega) (wr.heap.size + 1) (by simp) ?_; intro gg cap w1 hown1 hgrow hat hlt1))
      all_goals
        have hbel1 : Below (w.heap.size + 1) W w1 := ((hbel.alloc hsz _).drew).grown hgrow (by simp; omega) (fun j hj => (hown.lt j hj).1)
        rw [HVT.out] at hown1
        clear hgrow hat hlt1 hown
        go_wp2
        go_roundg (32 - (k + 1))
        case measure => omega
        case rel => exact ⟨k + 1, by omega, rfl, by go_num, by rw [show 2 * (k + 1) = 2 * k + 2 by omega]; exact hown1, hbel1⟩
    · have : k = 32 := by omega
      subst this
      obtain ⟨a, g, c, rfl, hview⟩ := view_own hown (fun i hi => dgs_bd s i) (by omega)
      have cv := convert_view hview.1 c
      have HB : Hid (Below w.heap.size w wr) := by
        have e := HW.out.1
        have b0 : Below w.heap.size w W := by rw [e]; exact (Below.refl _ _).alloc (Nat.le_refl _) _
        exact b0.trans (hbel.mono (by omega))
      clear hview hown hbel
      go_wp2
      go_ret
      exact ⟨rfl, HB.out⟩
end Go.Proofs.YtdhenfepfkmhhaaDoor
