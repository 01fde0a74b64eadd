import Derived.Test.YtglnjacaeefddaaDoorApart
namespace Go.Proofs.YtglnjacaeefddaaDoor
open Go.RowKit

/-- do all of the first n answer yes? -/
def allB (p : Nat → Bool) : Nat → Bool
  | 0 => true
  | n + 1 => allB p n && p n
theorem allB_iff (p : Nat → Bool) (n : Nat) : allB p n = true ↔ ∀ i, i < n → p i = true := by
  induction n with
  | zero => simp [allB]
  | succ n ih =>
    simp only [allB, Bool.and_eq_true, ih]
    constructor
    · rintro ⟨h1, h2⟩ i hi
      by_cases e : i = n
      · subst e; exact h2
      · exact h1 i (by omega)
    · intro h
      exact ⟨fun i hi => h i (by omega), h n (by omega)⟩

/-- nibbles that make bytes -/
def good (n : Nat) (Z : Nat → Int) : Bool := decide (n % 2 = 0) && allB (fun i => decide (Z i ≤ 15)) n
theorem good_iff (n : Nat) (Z : Nat → Int) : good n Z = true ↔ (n % 2 = 0 ∧ ∀ i, i < n → Z i ≤ 15) := by
  unfold good
  rw [Bool.and_eq_true, allB_iff]
  simp
def bk (n : Nat) (Z : Nat → Int) : Nat := if good n Z = true then n / 2 else 0
def be (n : Nat) (Z : Nat → Int) : Int := if good n Z = true then 0 else 2
theorem bk_le (n : Nat) (Z : Nat → Int) : bk n Z ≤ n := by unfold bk; split <;> omega
theorem be_bd (n : Nat) (Z : Nat → Int) : 0 ≤ be n Z ∧ be n Z ≤ 2 := by unfold be; split <;> omega
/-- texts that are hexadecimal -/
def hexy (s : ByteArray) : Bool := decide (s.size % 2 = 0) && allB (fun i => decide (dgt (sv s i) ≤ 15)) s.size
theorem hexy_iff (s : ByteArray) : hexy s = true ↔ (s.size % 2 = 0 ∧ ∀ i, i < s.size → IsDig (sv s i)) := by
  unfold hexy
  rw [Bool.and_eq_true, allB_iff]
  simp [dgt_dig]
def uk (s : ByteArray) : Nat := if hexy s = true then s.size / 2 else 0
def ue (s : ByteArray) : Int := if hexy s = true then 0 else 10
theorem uk_le (s : ByteArray) : uk s ≤ s.size := by unfold uk; split <;> omega
theorem ue_bd (s : ByteArray) : 0 ≤ ue s ∧ ue s ≤ 10 := by unfold ue; split <;> omega

/-- A LIST OF THE CALLER's OWN: nil, or all of a new block. -/
structure Fresh (w w' : World) (α : Option Addr) (γ k : Nat) (Y : Nat → Int) : Prop where
  at_ : 0 < k → α = some ⟨γ, 0, none⟩
  low : 0 < k → w.heap.size ≤ γ
  row : 0 < k → w'.rowIs γ 5 k (fun i => .int .u8 (Y i))
  bd : ∀ i, i < k → 0 ≤ Y i ∧ Y i ≤ 255
  below : Below w.heap.size w w'
theorem Fresh.view {w w' : World} {α : Option Addr} {γ k : Nat} {Y : Nat → Int} (h : Fresh w w' α γ k Y) (hk : k ≤ 281474976710656) : View w' α γ 0 k Y :=
  ⟨h.at_, fun i hi => by rw [Nat.zero_add]; exact (h.row (by omega)).cell hi, h.bd, hk⟩
theorem NewRow.fresh {w w' : World} {k : Nat} {Y : Nat → Int} (h : NewRow w w' k Y) (hb : ∀ i, i < k → 0 ≤ Y i ∧ Y i ≤ 255) : Fresh w w' (some ⟨w.heap.size, 0, none⟩) w.heap.size k Y :=
  ⟨fun _ => rfl, fun _ => Nat.le_refl _, fun _ => h.row, hb, h.below⟩
theorem fresh_nil {w w' : World} {Y : Nat → Int} (h : Below w.heap.size w w') : Fresh w w' none 0 0 Y :=
  ⟨fun h => absurd h (by omega), fun h => absurd h (by omega), fun h => absurd h (by omega), fun i h => absurd h (by omega), h⟩
/-- a row that stays -/
theorem fresh_row {w w' w2 : World} {α : Option Addr} {γ k : Nat} {Y : Nat → Int} (h : Fresh w w' α γ k Y) (hb : Below w'.heap.size w' w2) (h0 : 0 < k) : w2.rowIs γ 5 k (fun i => .int .u8 (Y i)) :=
  (h.row h0).of_block (hb.block γ (h.row h0).lt)

theorem nibbles_all (w : World) (a : Option Addr) (b off n c : Nat) (Z : Nat → Int) (h : View w a b off n Z) (hn : n ≤ 140737488355328) :
    Calls Tryd.prog 10 #[.slice a n c] w fun e w' => ∃ α γ, e = .returned (.slice α (2 * n) (2 * n)) ∧ Fresh w w' α γ (2 * n) (nib Z) :=
  (nibbles_any w a b off n c Z h hn).mono fun e w' ⟨he, hr⟩ => ⟨_, _, he, hr.fresh (fun i hi => by have := nib_bd n Z h.bd i hi; omega)⟩

theorem bytes_all (w : World) (a : Option Addr) (b off n c : Nat) (Z : Nat → Int) (h : View w a b off n Z) :
    Calls Tryd.prog 7 #[.slice a n c] w fun e w' => ∃ α γ, e = .returned (.tuple #[.slice α (bk n Z) (bk n Z), .int .i64 (be n Z)]) ∧ Fresh w w' α γ (bk n Z) (join Z) := by
  by_cases hp : n % 2 = 1
  · refine (bytes_odd w a n c h.len hp).mono fun e w' ⟨he, hw⟩ => ?_
    have hg : ¬ good n Z = true := fun hg => by have := (good_iff n Z).1 hg; omega
    refine ⟨none, 0, ?_, ?_⟩
    · rw [he]; unfold bk be; rw [if_neg hg, if_neg hg]
    · subst hw
      unfold bk
      rw [if_neg hg]
      exact fresh_nil (Below.refl _ _)
  · refine (bytes_even w a b off (n / 2) n c Z h (by omega)).mono fun e w' hh => ?_
    rcases hh with ⟨hok, he, hr⟩ | ⟨⟨i, hi, hbad⟩, he, hb⟩
    · have hg : good n Z = true := (good_iff n Z).2 ⟨by omega, hok⟩
      refine ⟨some ⟨w.heap.size, 0, none⟩, w.heap.size, ?_, ?_⟩
      · rw [he]; unfold bk be; rw [if_pos hg, if_pos hg]
      · unfold bk
        rw [if_pos hg]
        exact hr.fresh (fun i hi => join_bd n Z (fun i hi => (h.bd i hi).1) hok i hi)
    · have hg : ¬ good n Z = true := fun hg => by have := ((good_iff n Z).1 hg).2 i hi; omega
      refine ⟨none, 0, ?_, ?_⟩
      · rw [he]; unfold bk be; rw [if_neg hg, if_neg hg]
      · unfold bk
        rw [if_neg hg]
        exact fresh_nil hb

theorem rbytes_all (w : World) (a : Option Addr) (b off n c : Nat) (Z : Nat → Int) (h : View w a b off n Z) (hn : n ≤ 4194304) :
    Calls Tryd.prog 16 #[.slice a n c] w fun e w' => ∃ α γ c', e = .returned (.tuple #[.slice α (bk n Z) c', .int .i64 (be n Z)]) ∧ View w' α γ 0 (bk n Z) (join Z) ∧ Below w.heap.size w w' :=
  (rbytes_any w a b off n c Z h hn).mono fun e w' hh => by
    rcases hh with ⟨hg0, α, γ, c', he, hv, hb⟩ | ⟨hbad, he, hb⟩
    · have hg : good n Z = true := (good_iff n Z).2 hg0
      refine ⟨α, γ, c', ?_, ?_, hb⟩
      · rw [he]; unfold bk be; rw [if_pos hg, if_pos hg]
      · unfold bk; rw [if_pos hg]; exact hv
    · have hg : ¬ good n Z = true := fun hg => by
        have h2 := (good_iff n Z).1 hg
        rcases hbad with h1 | ⟨i, hi, h1⟩
        · omega
        · have := h2.2 i hi; omega
      refine ⟨none, 0, 0, ?_, ?_, hb⟩
      · rw [he]; unfold bk be; rw [if_neg hg, if_neg hg]
      · unfold bk; rw [if_neg hg]; exact (fresh_nil hb).view (by omega)

theorem unhex_all (w : World) (s : ByteArray) (hT : Tab w) (hs : s.size ≤ 1048576) :
    Calls Tryd.prog 8 #[.string s] w fun e w' => ∃ α γ, e = .returned (.tuple #[.slice α (uk s) (uk s), .int .i64 (ue s)]) ∧ Fresh w w' α γ (uk s) (unh s) := by
  by_cases hp : s.size % 2 = 1
  · refine (unhex_odd w s (by omega) hp).mono fun e w' ⟨he, hw⟩ => ?_
    have hg : ¬ hexy s = true := fun hg => by have := (hexy_iff s).1 hg; omega
    refine ⟨none, 0, ?_, ?_⟩
    · rw [he]; unfold uk ue; rw [if_neg hg, if_neg hg]
    · subst hw
      unfold uk
      rw [if_neg hg]
      exact fresh_nil (Below.refl _ _)
  · refine (unhex_even w s (s.size / 2) hT (by omega) (by omega)).mono fun e w' hh => ?_
    rcases hh with ⟨hok, he, hr⟩ | ⟨⟨i, hi, hbad⟩, he, hb⟩
    · have hg : hexy s = true := (hexy_iff s).2 ⟨by omega, hok⟩
      refine ⟨some ⟨w.heap.size, 0, none⟩, w.heap.size, ?_, ?_⟩
      · rw [he]; unfold uk ue; rw [if_pos hg, if_pos hg]
      · unfold uk
        rw [if_pos hg]
        exact hr.fresh (unh_bd s (s.size / 2) (by omega) hok)
    · have hg : ¬ hexy s = true := fun hg => hbad (((hexy_iff s).1 hg).2 i hi)
      refine ⟨none, 0, ?_, ?_⟩
      · rw [he]; unfold uk ue; rw [if_neg hg, if_neg hg]
      · unfold uk
        rw [if_neg hg]
        exact fresh_nil hb

theorem runhex_all (w : World) (s : ByteArray) (hs : s.size ≤ 1048576) :
    Calls Tryd.prog 23 #[.string s] w fun e w' => ∃ α γ c', e = .returned (.tuple #[.slice α (uk s) c', .int .i64 (ue s)]) ∧ View w' α γ 0 (uk s) (unh s) ∧ Below w.heap.size w w' :=
  (runhex_any w s hs).mono fun e w' hh => by
    rcases hh with ⟨hg0, α, γ, c', he, hv, hb⟩ | ⟨hbad, he, hb⟩
    · have hg : hexy s = true := (hexy_iff s).2 hg0
      refine ⟨α, γ, c', ?_, ?_, hb⟩
      · rw [he]; unfold uk ue; rw [if_pos hg, if_pos hg]
      · unfold uk; rw [if_pos hg]; exact hv
    · have hg : ¬ hexy s = true := fun hg => by
        have h2 := (hexy_iff s).1 hg
        rcases hbad with h1 | ⟨i, hi, h1⟩
        · omega
        · exact h1 (h2.2 i hi)
      refine ⟨none, 0, 0, ?_, ?_, hb⟩
      · rw [he]; unfold uk ue; rw [if_neg hg, if_neg hg]
      · unfold uk; rw [if_neg hg]; exact (fresh_nil hb).view (by omega)

/-- what was there stays, one step behind the other -/
theorem ch {a b c : World} (h1 : Below a.heap.size a b) (h2 : Below b.heap.size b c) : Below a.heap.size a c := h1.trans (h2.mono h1.size)

/-- one of six -/
def pick6 {α : Type} (a0 a1 a2 a3 a4 a5 : α) : Nat → α
  | 0 => a0
  | 1 => a1
  | 2 => a2
  | 3 => a3
  | 4 => a4
  | _ => a5

theorem steps_le {L : Nat → Nat} (h : ∀ r, r < 6 → L r ≤ L (r + 1)) (r d : Nat) (hd : r + d ≤ 6) : L r ≤ L (r + d) := by
  induction d with
  | zero => exact Nat.le_refl _
  | succ d ih =>
    have h1 := ih (by omega)
    have h2 := h (r + d) (by omega)
    rw [show r + (d + 1) = r + d + 1 by omega]
    omega

/-- six lists that were made one behind the other share no room -/
theorem six_mk (W : World) (o : Obj) (α : Nat → Option Addr) (γ k : Nat → Nat) (Y : Nat → Nat → Int) (L : Nat → Nat)
    (hl : ∀ r, r < 6 → (W.alloc o).cell? ⟨W.heap.size, r, none⟩ = some (.slice (α r) (k r) (k r))) (ha : ∀ r, r < 6 → 0 < k r → α r = some ⟨γ r, 0, none⟩) (hk : ∀ r, r < 6 → k r ≤ 4194304)
    (hr : ∀ r, r < 6 → 0 < k r → W.rowIs (γ r) 5 (k r) (fun i => .int .u8 (Y r i))) (hL : ∀ r, r < 6 → 0 < k r → L r ≤ γ r ∧ γ r < L (r + 1)) (hm : ∀ r, r < 6 → L r ≤ L (r + 1)) :
    Six (W.alloc o) W.heap.size α γ k (fun r i => .int .u8 (Y r i)) := by
  have lt : ∀ r s, s < 6 → r < s → 0 < k r → 0 < k s → γ r < γ s := fun r s hs hrs h1 h2 => by
    have a1 := (hL r (by omega) h1).2
    have a2 := (hL s hs h2).1
    have a3 := steps_le hm (r + 1) (s - (r + 1)) (by omega)
    rw [show r + 1 + (s - (r + 1)) = s by omega] at a3
    omega
  refine ⟨hl, ha, hk, fun r hr6 h0 => (hr r hr6 h0).alloc o, fun r s hr6 hs6 hne h1 h2 => ?_, fun r hr6 h0 => ?_⟩
  · rcases Nat.lt_or_ge r s with h | h
    · have := lt r s hs6 h h1 h2; omega
    · have := lt s r hr6 (by omega) h2 h1; omega
  · have := (hr r hr6 h0).lt
    omega

/-- a list with its marks, wherever its block has stayed -/
structure Marks (w : World) (g n : Nat) (Z : Nat → Int) : Prop where
  cell : ∀ i, i < n → w.cell? ⟨g, i, none⟩ = some (.int .u8 (Z i))
  m0 : w.cell? ⟨g, n, none⟩ = some (.int .u8 77)
  m1 : w.cell? ⟨g, n + 1, none⟩ = some (.int .u8 78)
  m2 : w.cell? ⟨g, n + 2, none⟩ = some (.int .u8 79)
  fr : ∀ i, w.frozen? ⟨g, i, none⟩ = false
theorem Roomed.marks {w w' w2 : World} {g n cap : Nat} {Z : Nat → Int} (h : Roomed w w' g n cap Z) (hb : w2.heap[g]? = w'.heap[g]?) : Marks w2 g n Z :=
  ⟨fun i hi => (World.cell?_of_block (a := ⟨g, i, none⟩) (w := w') hb).trans (h.cell i hi), (World.cell?_of_block (a := ⟨g, n, none⟩) (w := w') hb).trans h.m0, (World.cell?_of_block (a := ⟨g, n + 1, none⟩) (w := w') hb).trans h.m1,
    (World.cell?_of_block (a := ⟨g, n + 2, none⟩) (w := w') hb).trans h.m2, fun i => (World.frozen?_of_block (a := ⟨g, i, none⟩) (w := w') hb).trans (h.fr i)⟩
theorem Marks.below {w w' : World} {g n : Nat} {Z : Nat → Int} (h : Marks w g n Z) (hb : Below w.heap.size w w') : Marks w' g n Z := by
  have hg : g < w.heap.size := World.block_lt_of_cell? _ _ h.m0
  exact ⟨fun i hi => (hb.cell (p := ⟨g, i, none⟩) hg).trans (h.cell i hi), (hb.cell (p := ⟨g, n, none⟩) hg).trans h.m0, (hb.cell (p := ⟨g, n + 1, none⟩) hg).trans h.m1, (hb.cell (p := ⟨g, n + 2, none⟩) hg).trans h.m2, fun i => (hb.frozen (p := ⟨g, i, none⟩) hg).trans (h.fr i)⟩
theorem Marks.view {w : World} {g n : Nat} {Z : Nat → Int} (h : Marks w g n Z) (hb : ∀ i, i < n → 0 ≤ Z i ∧ Z i ≤ 255) (hn : n ≤ 281474976710656) : View w (some ⟨g, 0, none⟩) g 0 n Z :=
  ⟨fun _ => rfl, fun i hi => by rw [Nat.zero_add]; exact h.cell i hi, hb, hn⟩
theorem view_row {w : World} {g n : Nat} {Z : Nat → Int} (h : ∀ i, i < n → w.cell? ⟨g, i, none⟩ = some (.int .u8 (Z i))) (hb : ∀ i, i < n → 0 ≤ Z i ∧ Z i ≤ 255) (hn : n ≤ 281474976710656) : View w (some ⟨g, 0, none⟩) g 0 n Z :=
  ⟨fun _ => rfl, fun i hi => by rw [Nat.zero_add]; exact h i hi, hb, hn⟩

end Go.Proofs.YtglnjacaeefddaaDoor
