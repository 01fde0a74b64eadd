import Derived.Test.YtlhllbggnpcoaaaGreatDoorFold
import Derived.Test.YtlhllbggnpcoaaaGreatDoorRRot
/-
  Plain facts on rows of bytes, told by the index: what two have in common, which stands first. No program.
-/
namespace Go.Proofs.YtlhllbggnpcoaaaGreatDoor

/-- how many of the first k are the same from the beginning on -/
def com (Z Y : Nat → Int) : Nat → Nat
  | 0 => 0
  | k + 1 => if com Z Y k = k ∧ Z k = Y k then k + 1 else com Z Y k

theorem com_le (Z Y : Nat → Int) (k : Nat) : com Z Y k ≤ k := by
  induction k with
  | zero => simp [com]
  | succ k ih => simp only [com]; split <;> omega

theorem com_same (Z Y : Nat → Int) (k i : Nat) (h : i < com Z Y k) : Z i = Y i := by
  induction k with
  | zero => simp [com] at h
  | succ k ih =>
    simp only [com] at h
    split at h
    · rename_i hk
      by_cases e : i = k
      · subst e; exact hk.2
      · exact ih (by omega)
    · exact ih h

theorem com_parts (Z Y : Nat → Int) (k : Nat) (h : com Z Y k < k) : Z (com Z Y k) ≠ Y (com Z Y k) := by
  induction k with
  | zero => simp at h
  | succ k ih =>
    simp only [com] at h ⊢
    split at h
    · omega
    · rename_i hk
      rw [if_neg hk]
      have := com_le Z Y k
      by_cases e : com Z Y k = k
      · rw [e]
        intro he
        exact hk ⟨e, he⟩
      · exact ih (by omega)

/-- the one number with these marks -/
theorem com_eq (Z Y : Nat → Int) (m k : Nat) (hk : k ≤ m) (hs : ∀ i, i < k → Z i = Y i) (hp : k < m → Z k ≠ Y k) : com Z Y m = k := by
  have h1 := com_le Z Y m
  by_cases hlt : com Z Y m < k
  · exact absurd (hs _ hlt) (com_parts Z Y m (by omega))
  · by_cases hgt : k < com Z Y m
    · exact absurd (com_same Z Y m k hgt) (hp (by omega))
    · omega

theorem com_stop (Z Y : Nat → Int) (m k : Nat) (hk : k < m) (hs : ∀ i, i < k → Z i = Y i) (hp : Z k ≠ Y k) : com Z Y m = k := com_eq Z Y m k (by omega) hs (fun _ => hp)
theorem com_all (Z Y : Nat → Int) (m : Nat) (hs : ∀ i, i < m → Z i = Y i) : com Z Y m = m := com_eq Z Y m m (by omega) hs (fun h => absurd h (by omega))

theorem com_symm (Z Y : Nat → Int) (m : Nat) : com Y Z m = com Z Y m := by
  apply com_eq
  · exact com_le _ _ _
  · intro i h; exact (com_same _ _ _ _ h).symm
  · intro h e; exact com_parts _ _ _ h e.symm

/-- which stands first: -1, 0, 1 -/
def cmp (n m : Nat) (Z Y : Nat → Int) : Int :=
  if com Z Y (min n m) = n ∧ com Z Y (min n m) = m then 0
  else if com Z Y (min n m) = n then -1
  else if com Z Y (min n m) = m then 1
  else if Z (com Z Y (min n m)) < Y (com Z Y (min n m)) then -1 else 1

theorem cmp_range (n m : Nat) (Z Y : Nat → Int) : cmp n m Z Y = -1 ∨ cmp n m Z Y = 0 ∨ cmp n m Z Y = 1 := by
  unfold cmp
  split
  · simp
  · split
    · simp
    · split
      · simp
      · split <;> simp

theorem cmp_bd (n m : Nat) (Z Y : Nat → Int) : -1 ≤ cmp n m Z Y ∧ cmp n m Z Y ≤ 1 := by
  rcases cmp_range n m Z Y with h | h | h <;> omega

/-- the marks of 'ahead' -/
def Ahead (n m : Nat) (Z Y : Nat → Int) : Prop := ∃ k, k ≤ n ∧ k ≤ m ∧ (∀ i, i < k → Z i = Y i) ∧ ((k = n ∧ k < m) ∨ (k < n ∧ k < m ∧ Z k < Y k))
/-- the marks of 'the same' -/
def Alike (n m : Nat) (Z Y : Nat → Int) : Prop := n = m ∧ ∀ i, i < n → Z i = Y i

theorem cmp_neg_iff (n m : Nat) (Z Y : Nat → Int) : cmp n m Z Y = -1 ↔ Ahead n m Z Y := by
  constructor
  · intro h
    have h1 := com_le Z Y (min n m)
    refine ⟨com Z Y (min n m), by omega, by omega, fun i hi => com_same _ _ _ _ hi, ?_⟩
    unfold cmp at h
    split at h
    · omega
    · split at h
      · left; omega
      · split at h
        · omega
        · split at h
          · right; refine ⟨by omega, by omega, by assumption⟩
          · omega
  · rintro ⟨k, h1, h2, h3, h4⟩
    have e : com Z Y (min n m) = k := by
      apply com_eq _ _ _ _ (by omega) h3
      intro hk he
      rcases h4 with h4 | ⟨_, _, h4⟩
      · omega
      · omega
    unfold cmp
    rw [e]
    rcases h4 with ⟨rfl, h4⟩ | ⟨h5, h6, h7⟩
    · rw [if_neg (by omega), if_pos rfl]
    · rw [if_neg (by omega), if_neg (by omega), if_neg (by omega), if_pos h7]

theorem cmp_zero_iff (n m : Nat) (Z Y : Nat → Int) : cmp n m Z Y = 0 ↔ Alike n m Z Y := by
  constructor
  · intro h
    unfold cmp at h
    split at h
    · rename_i e
      refine ⟨by omega, fun i hi => com_same Z Y (min n m) i (by omega)⟩
    · split at h
      · omega
      · split at h
        · omega
        · split at h <;> omega
  · rintro ⟨rfl, h⟩
    unfold cmp
    have e : com Z Y (min n n) = n := by rw [Nat.min_self]; exact com_all _ _ _ h
    rw [e, if_pos ⟨rfl, rfl⟩]

theorem ahead_anti (n m : Nat) (Z Y : Nat → Int) (h : Ahead n m Z Y) (h' : Ahead m n Y Z) : False := by
  have a := (cmp_neg_iff n m Z Y).2 h
  obtain ⟨k, h1, h2, h3, h4⟩ := h
  obtain ⟨j, g1, g2, g3, g4⟩ := h'
  rcases Nat.lt_trichotomy j k with e | e | e
  · have := h3 j e
    rcases g4 with g4 | ⟨_, _, g4⟩ <;> omega
  · subst e
    rcases g4 with g4 | ⟨_, _, g4⟩ <;> rcases h4 with h4 | ⟨_, _, h4⟩ <;> omega
  · have := g3 k e
    rcases h4 with h4 | ⟨_, _, h4⟩ <;> omega

/-- of two, one is ahead, or they are the same -/
theorem cmp_pos_of (n m : Nat) (Z Y : Nat → Int) (h : cmp n m Z Y = 1) : Ahead m n Y Z := by
  have h1 := com_le Z Y (min n m)
  refine ⟨com Z Y (min n m), by omega, by omega, fun i hi => (com_same _ _ _ _ hi).symm, ?_⟩
  have hp := com_parts Z Y (min n m)
  unfold cmp at h
  split at h
  · omega
  · split at h
    · omega
    · split at h
      · left; omega
      · split at h
        · omega
        · right; refine ⟨by omega, by omega, ?_⟩
          have := hp (by omega)
          omega

theorem cmp_anti (n m : Nat) (Z Y : Nat → Int) : cmp m n Y Z = -cmp n m Z Y := by
  rcases cmp_range n m Z Y with h | h | h
  · rcases cmp_range m n Y Z with g | g | g
    · exact absurd ((cmp_neg_iff _ _ _ _).1 g) (fun x => ahead_anti _ _ _ _ ((cmp_neg_iff _ _ _ _).1 h) x)
    · obtain ⟨rfl, g'⟩ := (cmp_zero_iff _ _ _ _).1 g
      have : cmp m m Z Y = 0 := (cmp_zero_iff _ _ _ _).2 ⟨rfl, fun i hi => (g' i hi).symm⟩
      omega
    · omega
  · obtain ⟨rfl, h'⟩ := (cmp_zero_iff _ _ _ _).1 h
    have : cmp n n Y Z = 0 := (cmp_zero_iff _ _ _ _).2 ⟨rfl, fun i hi => (h' i hi).symm⟩
    omega
  · have := (cmp_neg_iff _ _ _ _).2 (cmp_pos_of _ _ _ _ h)
    omega

theorem cmp_self (n : Nat) (Z : Nat → Int) : cmp n n Z Z = 0 := (cmp_zero_iff _ _ _ _).2 ⟨rfl, fun _ _ => rfl⟩

theorem ahead_trans (n m l : Nat) (Z Y X : Nat → Int) (h : Ahead n m Z Y) (g : Ahead m l Y X) : Ahead n l Z X := by
  obtain ⟨k, h1, h2, h3, h4⟩ := h
  obtain ⟨j, g1, g2, g3, g4⟩ := g
  rcases Nat.lt_trichotomy j k with e | e | e
  · refine ⟨j, by omega, by omega, fun i hi => (h3 i (by omega)).trans (g3 i hi), ?_⟩
    have := h3 j e
    rcases g4 with g4 | ⟨_, _, g4⟩
    · omega
    · right; omega
  · subst e
    refine ⟨j, by omega, by omega, fun i hi => (h3 i (by omega)).trans (g3 i hi), ?_⟩
    rcases h4 with h4 | ⟨_, _, h4⟩ <;> rcases g4 with g4 | ⟨_, _, g4⟩ <;> omega
  · refine ⟨k, by omega, by omega, fun i hi => (h3 i (by omega)).trans (g3 i (by omega)), ?_⟩
    have := g3 k e
    rcases h4 with h4 | ⟨_, _, h4⟩ <;> omega

theorem ahead_congr (n m : Nat) (Z Z' Y Y' : Nat → Int) (h : Ahead n m Z Y) (hz : ∀ i, i < n → Z i = Z' i) (hy : ∀ i, i < m → Y i = Y' i) : Ahead n m Z' Y' := by
  obtain ⟨k, h1, h2, h3, h4⟩ := h
  refine ⟨k, h1, h2, fun i hi => (hz i (by omega)).symm.trans ((h3 i hi).trans (hy i (by omega))), ?_⟩
  rcases h4 with h4 | ⟨h5, h6, h4⟩
  · left; exact h4
  · right; have := hz k h5; have := hy k h6; omega

theorem cmp_congr (n m : Nat) (Z Z' Y Y' : Nat → Int) (hz : ∀ i, i < n → Z i = Z' i) (hy : ∀ i, i < m → Y i = Y' i) : cmp n m Z Y = cmp n m Z' Y' := by
  rcases cmp_range n m Z Y with h | h | h
  · rw [h, (cmp_neg_iff n m Z' Y').2 (ahead_congr _ _ _ _ _ _ ((cmp_neg_iff _ _ _ _).1 h) hz hy)]
  · obtain ⟨rfl, h'⟩ := (cmp_zero_iff _ _ _ _).1 h
    rw [h, (cmp_zero_iff n n Z' Y').2 ⟨rfl, fun i hi => (hz i hi).symm.trans ((h' i hi).trans (hy i hi))⟩]
  · have a := (cmp_neg_iff _ _ _ _).2 (ahead_congr _ _ _ _ _ _ (cmp_pos_of _ _ _ _ h) hy hz)
    have b := cmp_anti m n Y' Z'
    omega

/-- never: not behind, not behind, and yet behind -/
theorem cmp_trans (n m l : Nat) (Z Y X : Nat → Int) (h : cmp n m Z Y ≤ 0) (g : cmp m l Y X ≤ 0) : cmp n l Z X ≤ 0 := by
  rcases cmp_range n m Z Y with a | a | a
  · rcases cmp_range m l Y X with b | b | b
    · have := (cmp_neg_iff _ _ _ _).2 (ahead_trans _ _ _ _ _ _ ((cmp_neg_iff _ _ _ _).1 a) ((cmp_neg_iff _ _ _ _).1 b))
      omega
    · obtain ⟨rfl, b'⟩ := (cmp_zero_iff _ _ _ _).1 b
      have := cmp_congr n m Z Z X Y (fun _ _ => rfl) (fun i hi => (b' i hi).symm)
      omega
    · omega
  · obtain ⟨rfl, a'⟩ := (cmp_zero_iff _ _ _ _).1 a
    have := cmp_congr n l Z Y X X a' (fun _ _ => rfl)
    omega
  · omega

end Go.Proofs.YtlhllbggnpcoaaaGreatDoor

/-
  A block's sixty-four words: the document's way.
-/
namespace Go.Proofs.YtlhllbggnpcoaaaGreatDoor
open Go.RowKit

theorem two64_drew {w w1 w2 : World} {f : Nat → Nat} (h : Hid (Two64 w w1 f)) (hq : ∃ q, w2 = w1.drewN q) : Hid (Two64 w w2 f) := by
  obtain ⟨q, rfl⟩ := hq
  exact h.out.drewN q

set_option maxRecDepth 100000 in
set_option maxHeartbeats 8000000 in
theorem rwords_any (w : World) (a : Option Addr) (b off c : Nat) (B : Nat → Nat) (h : View w a b off 64 (fun i => (B i : Int))) (hB : ∀ i, B i < 256) :
    Calls Tryz.prog 134 #[.slice a 64 c] w fun e w' => (∃ cs : Array Value, e = .returned (.agg cs) ∧ cs.size = 64 ∧ ∀ i, i < 64 → cs[i]? = some (.int .u32 (sched B i))) ∧ Below w.heap.size w w' := by
  obtain rfl := h.at_ (by omega)
  have hb := h.lt (by omega)
  go_enter Tryz.func134, Tryz.ntmps134
  go_wp2
  go_loopg [4] 16 (fun g i wr => ∃ k : Nat, k ≤ 16 ∧ g = 16 - k ∧ i = .int .i64 k ∧ Two64 w wr (fun i => if i < k then sched B i else 0))
  case atStart => exact ⟨0, by omega, rfl, rfl, (two64_start w).congr (fun i _ => by simp)⟩
  case round =>
    obtain ⟨k, hk, rfl, rfl, hR⟩ := hrel
    by_cases hkn : k < 16
    · have c0 : wr.cell? ⟨b, off + 4 * k, none⟩ = some (.int .u8 (B (4 * k))) := (hR.below.cell (p := ⟨b, off + 4 * k, none⟩) hb).trans (h.cell (4 * k) (by omega))
      have c1 : wr.cell? ⟨b, off + (4 * k + 1), none⟩ = some (.int .u8 (B (4 * k + 1))) := (hR.below.cell (p := ⟨b, off + (4 * k + 1), none⟩) hb).trans (h.cell (4 * k + 1) (by omega))
      have c2 : wr.cell? ⟨b, off + (4 * k + 2), none⟩ = some (.int .u8 (B (4 * k + 2))) := (hR.below.cell (p := ⟨b, off + (4 * k + 2), none⟩) hb).trans (h.cell (4 * k + 2) (by omega))
      have c3 : wr.cell? ⟨b, off + (4 * k + 3), none⟩ = some (.int .u8 (B (4 * k + 3))) := (hR.below.cell (p := ⟨b, off + (4 * k + 3), none⟩) hb).trans (h.cell (4 * k + 3) (by omega))
      have fz := hR.row.frozen k
      have cc := hR.row.cell (i := k) (by omega)
      simp only [Nat.lt_irrefl, if_false] at cc
      have HR : Hid (Two64 w wr (fun i => if i < k then sched B i else 0)) := hR
      clear hR
      go_wp2
      go_region
      go_wp2
      rw [be_spelt hB k]
      clear cc fz c0 c1 c2 c3
      go_roundg (16 - (k + 1))
      case measure => omega
      case rel =>
        refine ⟨k + 1, by omega, rfl, by go_num, ((HR.out.set k (be B k)).drew).congr (fun i _ => ?_)⟩
        by_cases e : i = k
        · subst e
          rw [if_pos rfl, if_pos (by omega), sched_low B hkn]
        · rw [if_neg e]
          by_cases e2 : i < k
          · rw [if_pos e2, if_pos (by omega)]
          · rw [if_neg e2, if_neg (by omega)]
    · have : k = 16 := by omega
      subst this
      go_wp2
      have HR : Hid (Two64 w wr (fun i => if i < 16 then sched B i else 0)) := hR
      clear hR
      go_loopg [5] 48 (fun g i wr => ∃ k : Nat, 16 ≤ k ∧ k ≤ 64 ∧ g = 64 - k ∧ i = .int .i64 k ∧ Two64 w wr (fun i => if i < k then sched B i else 0))
      case atStart => exact ⟨16, by omega, by omega, rfl, rfl, HR⟩
      case round =>
        clear HR
        obtain ⟨k, hk0, hk, rfl, rfl, hR⟩ := hrel
        by_cases hkn : k < 64
        · have c2 := hR.row.cell (i := k - 2) (by omega)
          have c7 := hR.row.cell (i := k - 7) (by omega)
          have c15 := hR.row.cell (i := k - 15) (by omega)
          have c16 := hR.row.cell (i := k - 16) (by omega)
          rw [if_pos (by omega)] at c2 c7 c15 c16
          have l2 := sched_lt hB (k - 2)
          have l7 := sched_lt hB (k - 7)
          have l15 := sched_lt hB (k - 15)
          have l16 := sched_lt hB (k - 16)
          have E := sched_high B hk0
          obtain ⟨x2, h2⟩ : ∃ x, x = sched B (k - 2) := ⟨_, rfl⟩
          obtain ⟨x7, h7⟩ : ∃ x, x = sched B (k - 7) := ⟨_, rfl⟩
          obtain ⟨x15, h15⟩ : ∃ x, x = sched B (k - 15) := ⟨_, rfl⟩
          obtain ⟨x16, h16⟩ : ∃ x, x = sched B (k - 16) := ⟨_, rfl⟩
          rw [← h2] at c2 l2
          rw [← h7] at c7 l7
          rw [← h15] at c15 l15
          rw [← h16] at c16 l16
          rw [← h2, ← h7, ← h15, ← h16] at E
          have H7 : Hid (x7 = sched B (k - 7) ∧ x16 = sched B (k - 16)) := ⟨h7, h16⟩
          clear h2 h7 h15 h16
          have HE : Hid (sched B k = wnew x2 x7 x15 x16) := E
          clear E
          have fz := hR.row.frozen k
          have cc := hR.row.cell (i := k) (by omega)
          simp only [Nat.lt_irrefl, if_false] at cc
          have HR : Hid (Two64 w wr (fun i => if i < k then sched B i else 0)) := hR
          clear hR
          go_wp2_with fail
          refine (turned_any _ x15 7 l15 (by omega) (by omega)).mono ?_
          rintro _ wq ⟨rfl, hq⟩
          replace HR := two64_drew HR hq
          clear hq
          go_wp2_with fail
          refine (turned_any _ x15 18 l15 (by omega) (by omega)).mono ?_
          rintro _ wq2 ⟨rfl, hq⟩
          replace HR := two64_drew HR hq
          clear hq
          go_wp2_with fail
          refine (turned_any _ x2 17 l2 (by omega) (by omega)).mono ?_
          rintro _ wq3 ⟨rfl, hq⟩
          replace HR := two64_drew HR hq
          clear hq
          go_wp2_with fail
          refine (turned_any _ x2 19 l2 (by omega) (by omega)).mono ?_
          rintro _ wp ⟨rfl, hq⟩
          replace HR := two64_drew HR hq
          clear hq
          go_wp2_with fail
          have c7' : wp.cell? ⟨w.heap.size + 1, k - 7, none⟩ = some (.int .u32 x7) := by
            have e := HR.out.row.cell (i := k - 7) (by omega)
            rw [if_pos (by omega), ← H7.out.1] at e
            exact e
          have c16' : wp.cell? ⟨w.heap.size + 1, k - 16, none⟩ = some (.int .u32 x16) := by
            have e := HR.out.row.cell (i := k - 16) (by omega)
            rw [if_pos (by omega), ← H7.out.2] at e
            exact e
          clear c2 c7 c15 c16 fz cc
          have fz := HR.out.row.frozen k
          have cc := HR.out.row.cell (i := k) (by omega)
          simp only [Nat.lt_irrefl, if_false] at cc
          rw [s0_spelt l15, s1_spelt l2]
          have m0 := s0_lt l15
          have m1 := s1_lt l2
          obtain ⟨y0, hy0⟩ : ∃ y, y = s0 x15 := ⟨_, rfl⟩
          obtain ⟨y1, hy1⟩ : ∃ y, y = s1 x2 := ⟨_, rfl⟩
          rw [← hy0] at m0 ⊢
          rw [← hy1] at m1 ⊢
          have Hy : Hid (y0 = s0 x15 ∧ y1 = s1 x2) := ⟨hy0, hy1⟩
          clear hy0 hy1
          go_wp2
          go_region
          go_wp2
          have V : ((y1 : Int) + (x7 : Int) + (y0 : Int) + (x16 : Int)) % 4294967296 = ((sched B k : Nat) : Int) := by
            rw [HE.out, Hy.out.1, Hy.out.2]
            simp only [wnew, M]
            omega
          rw [V]
          clear cc fz c7' c16'
          go_roundg (64 - (k + 1))
          case measure => omega
          case rel =>
            refine ⟨k + 1, by omega, by omega, rfl, by go_num, ((HR.out.set k (sched B k)).drew).congr (fun i _ => ?_)⟩
            by_cases e : i = k
            · subst e
              rw [if_pos rfl, if_pos (by omega)]
            · rw [if_neg e]
              by_cases e2 : i < k
              · rw [if_pos e2, if_pos (by omega)]
              · rw [if_neg e2, if_neg (by omega)]
        · have : k = 64 := by omega
          subst this
          obtain ⟨cs, hg, hsz, hcs⟩ := hR.row
          obtain ⟨os, og, osz, _⟩ := hR.out
          have hi : (Tryz.prog.info? 144).map (·.size) = some cs.size := by rw [hsz]; exact info62
          have h1 : cs.all (·.oneCell') = true := all_one (fun i hi => ⟨_, _, hcs i (by omega)⟩)
          have HR : Hid (Two64 w wr (fun i => if i < 64 then sched B i else 0)) := hR
          clear hR
          go_wp2_with (first
            | refine wpList_load_row rfl 144 (.tmp 3) rfl (w.heap.size + 1) rfl 144 cs (0, 0) _ hg Tryz.underlying144 rfl hi ?_
            | refine wpList_store_row rfl 144 (.tmp 2) (.tmp 92) rfl w.heap.size cs rfl rfl 144 os og hi (by omega) h1 ?_)
          refine bodyPost_ret (v := .agg cs) ?_ rfl ?_
          · exact results_cell_row rfl _ _ w.heap.size 144 cs (0, 0) _ rfl (setRow_heap _ _ _ _ _ _ og) Tryz.underlying144 rfl hi
          refine ⟨⟨cs, rfl, hsz, fun i hi => by rw [hcs i hi, if_pos hi]⟩, below_setRow HR.out.below (Nat.le_refl _) _⟩
end Go.Proofs.YtlhllbggnpcoaaaGreatDoor
