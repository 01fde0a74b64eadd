import Derived.Test.YtepeolbbplodfaaGreatDoorChecked
import Derived.WalkKit
import Derived.Deep.OwnRows
import Derived.Deep.LoopGhost
import Derived.Deep.QuietTactic
import Derived.BigQuiet
import Derived.Deep.Light
import Derived.Laws.BytesArg
import Derived.WalkSmall
import Derived.Laws.BitsAllLaws
import Derived.BigRegion
import Derived.Laws.Rows
/-
  How a list of bytes lies in memory, told by the index.
-/

namespace Go.Proofs.YtepeolbbplodfaaGreatDoor.Dg
open Go.RowKit

theorem Tryz.info5 : (Tryz.prog.info? 5).map (fun i => (i.zero, i.size, i.bytes)) = some (some (.int .u8 0), 1, 1) := by kernel_rfl

/-- THE SLICE VALUE v HOLDS n BYTES, Z i AT PLACE i. -/
structure View (w : World) (a : Option Addr) (b off n : Nat) (Z : Nat → Int) : Prop where
  at_ : 0 < n → a = some ⟨b, off, none⟩
  cell : ∀ i, i < n → w.cell? ⟨b, off + i, none⟩ = some (.int .u8 (Z i))
  bd : ∀ i, i < n → 0 ≤ Z i ∧ Z i ≤ 255
  len : n ≤ 281474976710656

theorem View.lt {w : World} {a : Option Addr} {b off n : Nat} {Z : Nat → Int} (h : View w a b off n Z) (hn : 0 < n) : b < w.heap.size :=
  World.block_lt_of_cell? _ _ (h.cell 0 hn)

theorem View.of_cells {w w' : World} {a : Option Addr} {b off n : Nat} {Z : Nat → Int} (h : View w a b off n Z) (hc : ∀ p : Addr, p.block < w.heap.size → w'.cell? p = w.cell? p) : View w' a b off n Z :=
  ⟨h.at_, fun i hi => (hc _ (h.lt (by omega))).trans (h.cell i hi), h.bd, h.len⟩

theorem View.drewN {w : World} {a : Option Addr} {b off n : Nat} {Z : Nat → Int} (h : View w a b off n Z) (q : Nat) : View (w.drewN q) a b off n Z :=
  h.of_cells fun p _ => by simp

theorem View.below {w w' : World} {a : Option Addr} {b off n : Nat} {Z : Nat → Int} (h : View w a b off n Z) (hb : Below w.heap.size w w') : View w' a b off n Z :=
  h.of_cells fun _ hp => hb.cell hp

theorem View.congr {w : World} {a : Option Addr} {b off n : Nat} {Z Y : Nat → Int} (h : View w a b off n Z) (e : ∀ i, i < n → Z i = Y i) : View w a b off n Y :=
  ⟨h.at_, fun i hi => by rw [← e i hi]; exact h.cell i hi, fun i hi => by rw [← e i hi]; exact h.bd i hi, h.len⟩

end Go.Proofs.YtepeolbbplodfaaGreatDoor.Dg

/-
  Strings of bytes by their order, and lists of them that rise.
-/
namespace Go.Proofs.YtepeolbbplodfaaGreatDoor.Dg

/-- which of two strings stands first -/
def cmpL : List Nat → List Nat → Int
  | [], [] => 0
  | [], _ :: _ => -1
  | _ :: _, [] => 1
  | a :: x, b :: y => if a < b then -1 else if b < a then 1 else cmpL x y

theorem cmpL_self : ∀ x : List Nat, cmpL x x = 0
  | [] => rfl
  | a :: x => by simp [cmpL, cmpL_self x]
theorem cmpL_eq : ∀ {x y : List Nat}, cmpL x y = 0 → x = y
  | [], [], _ => rfl
  | [], _ :: _, h => by simp [cmpL] at h
  | _ :: _, [], h => by simp [cmpL] at h
  | a :: x, b :: y, h => by
    simp only [cmpL] at h
    split at h
    · cases h
    · split at h
      · cases h
      · have : a = b := by omega
        rw [this, cmpL_eq h]
theorem cmpL_zero {x y : List Nat} : cmpL x y = 0 ↔ x = y := ⟨cmpL_eq, fun e => by rw [e]; exact cmpL_self _⟩
theorem cmpL_neg : ∀ x y : List Nat, cmpL y x = - cmpL x y
  | [], [] => rfl
  | [], _ :: _ => rfl
  | _ :: _, [] => rfl
  | a :: x, b :: y => by
    simp only [cmpL]
    by_cases h1 : a < b
    · rw [if_pos h1, if_neg (by omega), if_pos h1]; rfl
    · by_cases h2 : b < a
      · rw [if_pos h2, if_neg h1, if_pos h2]
      · rw [if_neg h2, if_neg h1, if_neg h1, if_neg h2]; exact cmpL_neg x y
theorem cmpL_three : ∀ x y : List Nat, cmpL x y = -1 ∨ cmpL x y = 0 ∨ cmpL x y = 1
  | [], [] => by simp [cmpL]
  | [], _ :: _ => by simp [cmpL]
  | _ :: _, [] => by simp [cmpL]
  | a :: x, b :: y => by
    simp only [cmpL]
    split
    · exact Or.inl rfl
    · split
      · exact Or.inr (Or.inr rfl)
      · exact cmpL_three x y
/-- x stands ahead of y -/
def lt (x y : List Nat) : Prop := cmpL x y < 0
instance (x y : List Nat) : Decidable (lt x y) := inferInstanceAs (Decidable (cmpL x y < 0))
theorem lt_irrefl (x : List Nat) : ¬ lt x x := by unfold lt; rw [cmpL_self]; decide
theorem lt_trans : ∀ {x y z : List Nat}, lt x y → lt y z → lt x z
  | [], y, [], h, k => by
    cases y <;> simp [lt, cmpL] at h k
  | [], _, _ :: _, _, _ => by simp [lt, cmpL]
  | _ :: _, [], _, h, _ => by simp [lt, cmpL] at h
  | _ :: _, _ :: _, [], _, k => by simp [lt, cmpL] at k
  | a :: x, b :: y, c :: z, h, k => by
    unfold lt at h k ⊢
    simp only [cmpL] at h k ⊢
    split at h <;> split at k
    · rw [if_pos (by omega)]; decide
    · split at k
      · exact absurd k (by decide)
      · rw [if_pos (by omega)]; decide
    · split at h
      · exact absurd h (by decide)
      · rw [if_pos (by omega)]; decide
    · split at h
      · exact absurd h (by decide)
      · split at k
        · exact absurd k (by decide)
        · rw [if_neg (by omega), if_neg (by omega)]
          exact lt_trans (x := x) (y := y) (z := z) h k
theorem lt_asymm {x y : List Nat} (h : lt x y) : ¬ lt y x := fun k => lt_irrefl x (lt_trans h k)
theorem lt_tri (x y : List Nat) : lt x y ∨ x = y ∨ lt y x := by
  rcases cmpL_three x y with h | h | h
  · exact Or.inl (by unfold lt; omega)
  · exact Or.inr (Or.inl (cmpL_eq h))
  · refine Or.inr (Or.inr ?_)
    unfold lt
    rw [cmpL_neg, h]
    decide
theorem lt_ne {x y : List Nat} (h : lt x y) : x ≠ y := fun e => lt_irrefl y (e ▸ h)
theorem cmpL_lt {x y : List Nat} (h : lt x y) : cmpL x y = -1 := by
  rcases cmpL_three x y with e | e | e
  · exact e
  · exact absurd h (by unfold lt; omega)
  · exact absurd h (by unfold lt; omega)
theorem cmpL_gt {x y : List Nat} (h : lt y x) : cmpL x y = 1 := by rw [cmpL_neg, cmpL_lt h]; rfl

/-- a list that rises -/
abbrev Ris (L : List (List Nat)) : Prop := L.Pairwise lt

/-- a string into a list that rises, once -/
def ins (s : List Nat) : List (List Nat) → List (List Nat)
  | [] => [s]
  | x :: r => if cmpL s x < 0 then s :: x :: r else if cmpL s x = 0 then x :: r else x :: ins s r

theorem ins_cons (s x : List Nat) (r : List (List Nat)) : ins s (x :: r) = if cmpL s x < 0 then s :: x :: r else if cmpL s x = 0 then x :: r else x :: ins s r := rfl
theorem mem_ins {s x : List Nat} : ∀ {L : List (List Nat)}, x ∈ ins s L ↔ x = s ∨ x ∈ L
  | [] => by simp [ins]
  | y :: r => by
    unfold ins
    split
    · simp
    · split
      · rename_i _ h
        have := cmpL_eq h
        subst this
        simp
      · simp only [List.mem_cons, mem_ins (L := r)]
        constructor
        · rintro (h | h | h) <;> simp [h]
        · rintro (h | h | h) <;> simp [h]
theorem ris_ins {s : List Nat} : ∀ {L : List (List Nat)}, Ris L → Ris (ins s L)
  | [], _ => by simp [ins]
  | y :: r, h => by
    obtain ⟨h1, h2⟩ := List.pairwise_cons.1 h
    unfold ins
    split
    · rename_i h3
      refine List.pairwise_cons.2 ⟨fun z hz => ?_, h⟩
      rcases List.mem_cons.1 hz with e | hz
      · rw [e]; exact h3
      · exact lt_trans h3 (h1 z hz)
    · split
      · exact h
      · rename_i h3 h4
        refine List.pairwise_cons.2 ⟨fun z hz => ?_, ris_ins h2⟩
        rcases mem_ins.1 hz with e | hz
        · rw [e]
          rcases lt_tri s y with k | k | k
          · exact absurd k h3
          · exact absurd (cmpL_zero.2 k) h4
          · exact k
        · exact h1 z hz
theorem ins_mem {s : List Nat} : ∀ {L : List (List Nat)}, Ris L → s ∈ L → ins s L = L
  | [], _, h => by simp at h
  | y :: r, hr, h => by
    obtain ⟨h1, h2⟩ := List.pairwise_cons.1 hr
    unfold ins
    rcases List.mem_cons.1 h with e | h
    · subst e
      rw [cmpL_self]
      rfl
    · have := h1 s h
      have e := cmpL_gt this
      rw [e, if_neg (by decide), if_neg (by decide), ins_mem h2 h]
theorem ins_length {s : List Nat} : ∀ {L : List (List Nat)}, s ∉ L → (ins s L).length = L.length + 1
  | [], _ => rfl
  | y :: r, h => by
    unfold ins
    split
    · simp
    · split
      · rename_i h3
        exact absurd (cmpL_eq h3) (fun e => h (by simp [e]))
      · have k := ins_length (s := s) (L := r) (fun k => h (List.mem_cons_of_mem _ k))
        simp [k]
/-- how many stand ahead of s -/
def pos (s : List Nat) (L : List (List Nat)) : Nat := L.countP (fun x => decide (lt x s))
theorem pos_le (s : List Nat) (L : List (List Nat)) : pos s L ≤ L.length := List.countP_le_length
theorem ins_at {s : List Nat} : ∀ {L : List (List Nat)}, Ris L → s ∉ L → ins s L = L.take (pos s L) ++ s :: L.drop (pos s L)
  | [], _, _ => rfl
  | y :: r, hr, h => by
    obtain ⟨h1, h2⟩ := List.pairwise_cons.1 hr
    unfold ins
    by_cases k : lt y s
    · have e := cmpL_gt k
      rw [e, if_neg (by decide), if_neg (by decide)]
      have ep : pos s (y :: r) = pos s r + 1 := by simp [pos, k]
      rw [ep, List.take_succ_cons, List.drop_succ_cons, ins_at h2 (fun q => h (by simp [q]))]
      rfl
    · have k2 : lt s y := by
        rcases lt_tri s y with q | q | q
        · exact q
        · exact absurd (by simp [q]) h
        · exact absurd q k
      have e := cmpL_lt k2
      rw [e, if_pos (by decide)]
      have ep : pos s (y :: r) = 0 := by
        unfold pos
        rw [List.countP_eq_zero]
        intro z hz
        rcases List.mem_cons.1 hz with e | hz
        · rw [e]; simpa using k
        · simpa using lt_asymm (lt_trans k2 (h1 z hz))
      rw [ep]
      rfl
theorem filter_ins {s : List Nat} (p : List Nat → Bool) : ∀ {L : List (List Nat)}, Ris L → (ins s L).filter p = if p s = true then ins s (L.filter p) else L.filter p
  | [], _ => by
    by_cases h : p s = true <;> simp [ins, h]
  | y :: r, hr => by
    obtain ⟨h1, h2⟩ := List.pairwise_cons.1 hr
    rw [ins_cons]
    by_cases k : lt s y
    · have e := cmpL_lt k
      rw [e, if_pos (by decide), List.filter_cons]
      by_cases ps : p s = true
      · rw [if_pos ps, if_pos ps]
        cases hf : (y :: r).filter p with
        | nil => rfl
        | cons z t =>
          have hz : z ∈ (y :: r).filter p := by rw [hf]; simp
          have hz2 := (List.mem_filter.1 hz).1
          have : lt s z := by
            rcases List.mem_cons.1 hz2 with e | hz2
            · rw [e]; exact k
            · exact lt_trans k (h1 z hz2)
          rw [ins_cons, cmpL_lt this, if_pos (by decide)]
      · rw [if_neg ps, if_neg ps]
    · by_cases e0 : cmpL s y = 0
      · rw [e0, if_neg (by decide), if_pos rfl]
        have := cmpL_eq e0
        subst this
        by_cases ps : p s = true
        · rw [if_pos ps, ins_mem (hr.sublist List.filter_sublist) (List.mem_filter.2 ⟨by simp, ps⟩)]
        · rw [if_neg ps]
      · have k2 : lt y s := by
          rcases lt_tri s y with q | q | q
          · exact absurd q k
          · exact absurd (cmpL_zero.2 q) e0
          · exact q
        rw [cmpL_gt k2, if_neg (by decide), if_neg (by decide), List.filter_cons, filter_ins p h2]
        by_cases py : p y = true
        · rw [if_pos py, List.filter_cons, if_pos py]
          by_cases ps : p s = true
          · rw [if_pos ps, if_pos ps]
            rw [ins_cons, cmpL_gt k2, if_neg (by decide), if_neg (by decide)]
          · rw [if_neg ps, if_neg ps]
        · rw [if_neg py, List.filter_cons, if_neg py]
theorem pos_get {s : List Nat} {L : List (List Nat)} (hr : Ris L) (i : Nat) (hi : i < L.length) : i < pos s L ↔ lt L[i] s := by
  induction L generalizing i with
  | nil => simp at hi
  | cons y r ih =>
    obtain ⟨h1, h2⟩ := List.pairwise_cons.1 hr
    by_cases k : lt y s
    · have ep : pos s (y :: r) = pos s r + 1 := by simp [pos, k]
      rw [ep]
      cases i with
      | zero => simpa using k
      | succ i => simpa using ih h2 i (by simpa using hi)
    · have ep : pos s (y :: r) = 0 := by
        unfold pos
        rw [List.countP_eq_zero]
        intro z hz
        rcases List.mem_cons.1 hz with e | hz
        · rw [e]; simpa using k
        · intro q
          exact k (lt_trans (h1 z hz) (by simpa using q))
      rw [ep]
      constructor
      · intro h; omega
      · intro h
        cases i with
        | zero => exact absurd h k
        | succ i => exact absurd (lt_trans (h1 _ (List.getElem_mem (by simpa using hi))) h) k
theorem pos_found {s : List Nat} {L : List (List Nat)} (hr : Ris L) : s ∈ L ↔ ∃ h : pos s L < L.length, L[pos s L] = s := by
  constructor
  · intro h
    obtain ⟨i, hi, e⟩ := List.getElem_of_mem h
    have h1 : ¬ i < pos s L := fun k => lt_irrefl s (by have := (pos_get hr i hi).1 k; rwa [e] at this)
    have h2 : ¬ pos s L < i := fun k => by
      have hp : pos s L < L.length := by omega
      have q : lt L[pos s L] L[i] := (List.pairwise_iff_getElem.1 hr) _ _ hp hi k
      rw [e] at q
      have := (pos_get hr _ hp).2 q
      omega
    have : i = pos s L := by omega
    subst this
    exact ⟨hi, e⟩
  · rintro ⟨h, e⟩
    rw [← e]
    exact List.getElem_mem h
end Go.Proofs.YtepeolbbplodfaaGreatDoor.Dg

/-
  Words turned right: the program's and the reference's way.
-/
namespace Go.Proofs.YtepeolbbplodfaaGreatDoor.Dg
open Go.RowKit

/-- a word turned right by n bits -/
def rot (x n : Nat) : Nat := (x >>> n) ||| ((x <<< (32 - n)) % 4294967296)
theorem rot_lt {x : Nat} (n : Nat) (hx : x < 4294967296) : rot x n < 4294967296 := by
  unfold rot
  refine Nat.or_lt_two_pow (n := 32) ?_ (Nat.mod_lt _ (by decide))
  rw [Nat.shiftRight_eq_div_pow]
  exact Nat.lt_of_le_of_lt (Nat.div_le_self _ _) hx

theorem turn_or (x n : Nat) (hx : x < 4294967296) : bits .or .u32 ((x : Int) / 2 ^ n) ((x : Int) * 2 ^ (32 - n) % 4294967296) = ((rot x n : Nat) : Int) := by
  have e1 : (x : Int) / 2 ^ n = ((x >>> n : Nat) : Int) := by rw [Nat.shiftRight_eq_div_pow]; simp
  have e2 : (x : Int) * 2 ^ (32 - n) % 4294967296 = (((x <<< (32 - n)) % 4294967296 : Nat) : Int) := by rw [Nat.shiftLeft_eq]; simp
  rw [e1, e2]
  refine u32_or_nat _ _ ?_ (Nat.mod_lt _ (by decide))
  rw [Nat.shiftRight_eq_div_pow]
  exact Nat.lt_of_le_of_lt (Nat.div_le_self _ _) hx

theorem turn_or' (x n : Nat) (hx : x < 4294967296) : bits .or .u32 ((x : Int) * 2 ^ (32 - n) % 4294967296) ((x : Int) / 2 ^ n) = ((rot x n : Nat) : Int) := by
  rw [← turn_or x n hx]
  simp only [bits, BitVec.or_comm]

theorem left_count : ∀ n : Nat, n < 32 → 1 ≤ n → bits .and .u64 (IntKind.u64.wrap (-(n : Int))) 31 = ((32 - n : Nat) : Int) := by decide

set_option maxHeartbeats 400000 in
theorem left_any (w : World) (x : Nat) (n : Nat) (h2 : x < 4294967296) (hn : 1 ≤ n) (hm : n ≤ 31) :
    Calls Tryz.prog 128 #[.int .u32 x, .int .i64 (-(n : Int))] w fun e w' => e = .returned (.int .u32 (rot x n)) ∧ w' = w := by
  have hc := left_count n (by omega) hn
  obtain ⟨m, hm'⟩ : ∃ m, m = 32 - n := ⟨_, rfl⟩
  have h3 : Hid (n = 32 - m) := by show n = 32 - m; omega
  have h5 : m + n ≤ 32 := by omega
  have h6 : 32 ≤ m + n := by omega
  rw [← hm'] at hc
  have h4 : m ≤ 31 := by omega
  clear hm'
  go_enter Tryz.func128, Tryz.ntmps128
  go_wp2
  have e1 := turn_or' x n h2
  rw [show 32 - n = m by omega] at e1
  rw [show 32 - m = n by omega, e1]
  go_ret
  exact ⟨rfl, rfl⟩

set_option maxHeartbeats 400000 in
theorem rotR_any (w : World) (x : Nat) (n : Nat) (h2 : x < 4294967296) (hn : 1 ≤ n) (hm : n ≤ 31) :
    Calls Tryz.prog 118 #[.int .u32 x, .int .i64 (n : Int)] w fun e w' => e = .returned (.int .u32 (rot x n)) ∧ w' = w := by
  have c := left_any w x n h2 hn hm
  go_enter Tryz.func118, Tryz.ntmps118
  go_wp2_with (refine c.mono ?_; rintro _ _ ⟨rfl, rfl⟩)
  go_ret
  exact ⟨rfl, rfl⟩

end Go.Proofs.YtepeolbbplodfaaGreatDoor.Dg

/-
  The sum, plainly: words are natural numbers below 2^32. No program.
-/
namespace Go.Proofs.YtepeolbbplodfaaGreatDoor.Dg

def M : Nat := 4294967296
/-- the words of a block: B i are its bytes -/
def be (B : Nat → Nat) (t : Nat) : Nat := ((B (4 * t) <<< 24 ||| B (4 * t + 1) <<< 16) ||| B (4 * t + 2) <<< 8) ||| B (4 * t + 3)
def s0 (x : Nat) : Nat := (rot x 7 ^^^ rot x 18) ^^^ (x >>> 3)
def s1 (x : Nat) : Nat := (rot x 17 ^^^ rot x 19) ^^^ (x >>> 10)
def wnew (a b c d : Nat) : Nat := (((s1 a + b) % M + s0 c) % M + d) % M
def sched (B : Nat → Nat) (t : Nat) : Nat :=
  if t < 16 then be B t else wnew (sched B (t - 2)) (sched B (t - 7)) (sched B (t - 15)) (sched B (t - 16))
termination_by t
decreasing_by all_goals omega

structure W8 where
  a : Nat
  b : Nat
  c : Nat
  d : Nat
  e : Nat
  f : Nat
  g : Nat
  h : Nat

def big1 (e : Nat) : Nat := (rot e 6 ^^^ rot e 11) ^^^ rot e 25
def big0 (a : Nat) : Nat := (rot a 2 ^^^ rot a 13) ^^^ rot a 22
def pick (e f g : Nat) : Nat := (e &&& f) ^^^ ((4294967295 ^^^ e) &&& g)
def most (a b c : Nat) : Nat := ((a &&& b) ^^^ (a &&& c)) ^^^ (b &&& c)
def t1 (s : W8) (k w : Nat) : Nat := ((((s.h + big1 s.e) % M + pick s.e s.f s.g) % M + k) % M + w) % M
def t2 (s : W8) : Nat := (big0 s.a + most s.a s.b s.c) % M
def turn1 (s : W8) (k w : Nat) : W8 := ⟨(t1 s k w + t2 s) % M, s.a, s.b, s.c, (s.d + t1 s k w) % M, s.e, s.f, s.g⟩
def turns (K W : Nat → Nat) (s : W8) : Nat → W8
  | 0 => s
  | t + 1 => turn1 (turns K W s t) (K t) (W t)
def plus (s r : W8) : W8 := ⟨(s.a + r.a) % M, (s.b + r.b) % M, (s.c + r.c) % M, (s.d + r.d) % M, (s.e + r.e) % M, (s.f + r.f) % M, (s.g + r.g) % M, (s.h + r.h) % M⟩
def KL : List Nat := [1116352408, 1899447441, 3049323471, 3921009573, 961987163, 1508970993, 2453635748, 2870763221, 3624381080, 310598401, 607225278, 1426881987, 1925078388, 2162078206, 2614888103, 3248222580, 3835390401, 4022224774, 264347078, 604807628, 770255983, 1249150122, 1555081692, 1996064986, 2554220882, 2821834349, 2952996808, 3210313671, 3336571891, 3584528711, 113926993, 338241895, 666307205, 773529912, 1294757372, 1396182291, 1695183700, 1986661051, 2177026350, 2456956037, 2730485921, 2820302411, 3259730800, 3345764771, 3516065817, 3600352804, 4094571909, 275423344, 430227734, 506948616, 659060556, 883997877, 958139571, 1322822218, 1537002063, 1747873779, 1955562222, 2024104815, 2227730452, 2361852424, 2428436474, 2756734187, 3204031479, 3329325298]
def K (t : Nat) : Nat := KL.getD t 0
def fold1 (s : W8) (B : Nat → Nat) : W8 := plus s (turns K (sched B) s 64)
def H0 : W8 := ⟨1779033703, 3144134277, 1013904242, 2773480762, 1359893119, 2600822924, 528734635, 1541459225⟩

structure Ok8 (s : W8) : Prop where
  a : s.a < 4294967296
  b : s.b < 4294967296
  c : s.c < 4294967296
  d : s.d < 4294967296
  e : s.e < 4294967296
  f : s.f < 4294967296
  g : s.g < 4294967296
  h : s.h < 4294967296

theorem turn1_ok {s : W8} (h : Ok8 s) (k w : Nat) : Ok8 (turn1 s k w) :=
  ⟨Nat.mod_lt _ (by decide), h.a, h.b, h.c, Nat.mod_lt _ (by decide), h.e, h.f, h.g⟩
theorem turns_ok {s : W8} (h : Ok8 s) (K W : Nat → Nat) : ∀ t, Ok8 (turns K W s t)
  | 0 => h
  | t + 1 => turn1_ok (turns_ok h K W t) _ _
theorem plus_ok (s r : W8) : Ok8 (plus s r) :=
  ⟨Nat.mod_lt _ (by decide), Nat.mod_lt _ (by decide), Nat.mod_lt _ (by decide), Nat.mod_lt _ (by decide), Nat.mod_lt _ (by decide), Nat.mod_lt _ (by decide), Nat.mod_lt _ (by decide), Nat.mod_lt _ (by decide)⟩
theorem fold1_ok (s : W8) (B : Nat → Nat) : Ok8 (fold1 s B) := plus_ok _ _
theorem H0_ok : Ok8 H0 := ⟨by decide, by decide, by decide, by decide, by decide, by decide, by decide, by decide⟩
theorem K_lt (t : Nat) (h : t < 64) : K t < 4294967296 := by
  have : ∀ t, t < 64 → K t < 4294967296 := by decide
  exact this t h

theorem be_lt {B : Nat → Nat} (hB : ∀ i, B i < 256) (t : Nat) : be B t < 4294967296 := by
  unfold be
  have sh : ∀ x n : Nat, x < 256 → n ≤ 24 → x <<< n < 2 ^ 32 := by
    intro x n hx hn
    rw [Nat.shiftLeft_eq]
    calc x * 2 ^ n < 2 ^ 8 * 2 ^ n := Nat.mul_lt_mul_of_pos_right (by simpa using hx) (Nat.two_pow_pos n)
      _ = 2 ^ (8 + n) := by rw [Nat.pow_add]
      _ ≤ 2 ^ 32 := Nat.pow_le_pow_right (by decide) (by omega)
  have e : (4294967296 : Nat) = 2 ^ 32 := by decide
  rw [e]
  refine Nat.or_lt_two_pow (Nat.or_lt_two_pow (Nat.or_lt_two_pow (sh _ _ (hB _) (by decide)) (sh _ _ (hB _) (by decide))) (sh _ _ (hB _) (by decide))) ?_
  exact Nat.lt_of_lt_of_le (hB _) (by decide)
theorem sched_lt {B : Nat → Nat} (hB : ∀ i, B i < 256) (t : Nat) : sched B t < 4294967296 := by
  unfold sched
  split
  · exact be_lt hB t
  · exact Nat.mod_lt _ (by decide)
theorem sched_low (B : Nat → Nat) {t : Nat} (h : t < 16) : sched B t = be B t := by
  rw [sched, if_pos h]
theorem sched_high (B : Nat → Nat) {t : Nat} (h : 16 ≤ t) : sched B t = wnew (sched B (t - 2)) (sched B (t - 7)) (sched B (t - 15)) (sched B (t - 16)) := by
  rw [sched, if_neg (by omega)]
theorem be_congr {B C : Nat → Nat} (h : ∀ i, i < 64 → B i = C i) {t : Nat} (ht : t < 16) : be B t = be C t := by
  unfold be
  rw [h _ (by omega), h _ (by omega), h _ (by omega), h _ (by omega)]
theorem sched_congr {B C : Nat → Nat} (h : ∀ i, i < 64 → B i = C i) (t : Nat) : sched B t = sched C t := by
  induction t using Nat.strongRecOn with
  | _ t ih =>
    by_cases ht : t < 16
    · rw [sched_low B ht, sched_low C ht, be_congr h ht]
    · rw [sched_high B (by omega), sched_high C (by omega), ih _ (by omega), ih _ (by omega), ih _ (by omega), ih _ (by omega)]
theorem fold1_congr {B C : Nat → Nat} (h : ∀ i, i < 64 → B i = C i) (s : W8) : fold1 s B = fold1 s C := by
  unfold fold1
  rw [show sched B = sched C from funext (sched_congr h)]
end Go.Proofs.YtepeolbbplodfaaGreatDoor.Dg

/-
  A block's sixty-four words: the program's way.
-/
namespace Go.Proofs.YtepeolbbplodfaaGreatDoor.Dg
open Go.RowKit

def wcell (f : Nat → Nat) (i : Nat) : Value := .int .u32 (f i)

/-- two new blocks of sixty-four words: the answer's (zeros), and the table on its way -/
structure Two64 (w wr : World) (f : Nat → Nat) : Prop where
  below : Below w.heap.size w wr
  size : wr.heap.size = w.heap.size + 2
  out : wr.rowIs w.heap.size 177 64 (fun _ => .int .u32 0)
  row : wr.rowIs (w.heap.size + 1) 177 64 (fun i => .int .u32 (f i))

theorem Two64.set {w wr : World} {f : Nat → Nat} (h : Two64 w wr f) (i v : Nat) : Two64 w (wr.setCell ⟨w.heap.size + 1, i, none⟩ (.int .u32 v)) (fun j => if j = i then v else f j) :=
  ⟨h.below.setCell (Nat.le_succ _) _, by simp [h.size], h.out.setOther (by show w.heap.size ≠ w.heap.size + 1; omega) _, (h.row.set i _).congr (fun j _ => by split <;> rfl)⟩
theorem Two64.drewN {w wr : World} {f : Nat → Nat} (h : Two64 w wr f) (q : Nat) : Two64 w (wr.drewN q) f :=
  ⟨below_drewN h.below q, h.size, h.out.of_block rfl, h.row.of_block rfl⟩
theorem Two64.congr {w wr : World} {f g : Nat → Nat} (h : Two64 w wr f) (e : ∀ i, i < 64 → f i = g i) : Two64 w wr g :=
  ⟨h.below, h.size, h.out, h.row.congr (fun i hi => by rw [e i hi])⟩
theorem Two64.drew {w wr : World} {f : Nat → Nat} (h : Two64 w wr f) : Two64 w wr.drew f :=
  ⟨h.below.drew, h.size, h.out.drew, h.row.drew⟩
def Z64 : Array Value := #[.int .u32 0, .int .u32 0, .int .u32 0, .int .u32 0, .int .u32 0, .int .u32 0, .int .u32 0, .int .u32 0, .int .u32 0, .int .u32 0, .int .u32 0, .int .u32 0, .int .u32 0, .int .u32 0, .int .u32 0, .int .u32 0, .int .u32 0, .int .u32 0, .int .u32 0, .int .u32 0, .int .u32 0, .int .u32 0, .int .u32 0, .int .u32 0, .int .u32 0, .int .u32 0, .int .u32 0, .int .u32 0, .int .u32 0, .int .u32 0, .int .u32 0, .int .u32 0, .int .u32 0, .int .u32 0, .int .u32 0, .int .u32 0, .int .u32 0, .int .u32 0, .int .u32 0, .int .u32 0, .int .u32 0, .int .u32 0, .int .u32 0, .int .u32 0, .int .u32 0, .int .u32 0, .int .u32 0, .int .u32 0, .int .u32 0, .int .u32 0, .int .u32 0, .int .u32 0, .int .u32 0, .int .u32 0, .int .u32 0, .int .u32 0, .int .u32 0, .int .u32 0, .int .u32 0, .int .u32 0, .int .u32 0, .int .u32 0, .int .u32 0, .int .u32 0]
theorem Z64_rep : Z64 = Array.replicate 64 (.int .u32 0) := by rfl
theorem zeros_row (w : World) (z : Value) (n t : Nat) : (w.alloc (.cells (Array.replicate n z) t)).rowIs w.heap.size t n (fun _ => z) := by
  have h := World.rowIs_alloc w (Array.replicate n z) t (fun _ => z) (fun i hi => by rw [Array.size_replicate] at hi; simp [hi])
  rwa [Array.size_replicate] at h
theorem two64_start (w : World) : Two64 w ((w.alloc (.cells Z64 177)).alloc (.cells Z64 177)) (fun _ => 0) := by
  rw [Z64_rep]
  refine ⟨((Below.refl _ _).alloc (Nat.le_refl _) _).alloc (by simp) _, by simp, (zeros_row w _ 64 177).alloc _, ?_⟩
  have h := zeros_row (w.alloc (.cells (Array.replicate 64 (.int .u32 0)) 177)) (.int .u32 0) 64 177
  rwa [World.size_alloc] at h

theorem sh24 {x : Nat} (h : x < 256) : (x : Int) % (4294967296 : Int) * (16777216 : Int) % (4294967296 : Int) = ((x <<< 24 : Nat) : Int) := by rw [Nat.shiftLeft_eq]; omega
theorem sh16 {x : Nat} (h : x < 256) : (x : Int) % (4294967296 : Int) * (65536 : Int) % (4294967296 : Int) = ((x <<< 16 : Nat) : Int) := by rw [Nat.shiftLeft_eq]; omega
theorem sh8 {x : Nat} (h : x < 256) : (x : Int) % (4294967296 : Int) * (256 : Int) % (4294967296 : Int) = ((x <<< 8 : Nat) : Int) := by rw [Nat.shiftLeft_eq]; omega
theorem sh0 {x : Nat} (h : x < 256) : (x : Int) % (4294967296 : Int) = (x : Int) := by omega
theorem shl_lt {x : Nat} (n : Nat) (hx : x < 256) (hn : n ≤ 24) : x <<< n < 4294967296 := by
  rw [Nat.shiftLeft_eq]
  calc x * 2 ^ n < 2 ^ 8 * 2 ^ n := Nat.mul_lt_mul_of_pos_right (by simpa using hx) (Nat.two_pow_pos n)
    _ = 2 ^ (8 + n) := by rw [Nat.pow_add]
    _ ≤ 2 ^ 32 := Nat.pow_le_pow_right (by decide) (by omega)
theorem or_lt {x y : Nat} (h : x < 4294967296) (g : y < 4294967296) : x ||| y < 4294967296 := Nat.or_lt_two_pow (n := 32) h g
theorem be_spelt {B : Nat → Nat} (hB : ∀ i, B i < 256) (k : Nat) :
    bits .or .u32 (bits .or .u32 (bits .or .u32 ((B (4 * k) : Int) % 4294967296 * 16777216 % 4294967296) ((B (4 * k + 1) : Int) % 4294967296 * 65536 % 4294967296)) ((B (4 * k + 2) : Int) % 4294967296 * 256 % 4294967296)) ((B (4 * k + 3) : Int) % 4294967296) = ((be B k : Nat) : Int) := by
  have a0 := shl_lt 24 (hB (4 * k)) (by omega)
  have a1 := shl_lt 16 (hB (4 * k + 1)) (by omega)
  have a2 := shl_lt 8 (hB (4 * k + 2)) (by omega)
  have a3 := hB (4 * k + 3)
  rw [sh24 (hB _), sh16 (hB _), sh8 (hB _), sh0 (hB _), u32_or_nat _ _ a0 a1, u32_or_nat _ _ (or_lt a0 a1) a2, u32_or_nat _ _ (or_lt (or_lt a0 a1) a2) (by omega)]
  rfl

theorem xor_lt {x y : Nat} (h : x < 4294967296) (g : y < 4294967296) : x ^^^ y < 4294967296 := Nat.xor_lt_two_pow (n := 32) h g
theorem s0_spelt {x : Nat} (h : x < 4294967296) : bits .xor .u32 (bits .xor .u32 ((rot x 7 : Nat) : Int) ((rot x 18 : Nat) : Int)) ((x : Int) / 8) = ((s0 x : Nat) : Int) := by
  have e : (x : Int) / (8 : Int) = ((x >>> 3 : Nat) : Int) := by rw [Nat.shiftRight_eq_div_pow]; omega
  have l : x >>> 3 < 4294967296 := by rw [Nat.shiftRight_eq_div_pow]; omega
  rw [e, u32_xor_nat _ _ (rot_lt 7 h) (rot_lt 18 h), u32_xor_nat _ _ (xor_lt (rot_lt 7 h) (rot_lt 18 h)) l]
  rfl
theorem s0_lt {x : Nat} (h : x < 4294967296) : s0 x < 4294967296 := by
  have l : x >>> 3 < 4294967296 := by rw [Nat.shiftRight_eq_div_pow]; omega
  exact xor_lt (xor_lt (rot_lt 7 h) (rot_lt 18 h)) l
theorem s1_lt {x : Nat} (h : x < 4294967296) : s1 x < 4294967296 := by
  have l : x >>> 10 < 4294967296 := by rw [Nat.shiftRight_eq_div_pow]; omega
  exact xor_lt (xor_lt (rot_lt 17 h) (rot_lt 19 h)) l
theorem info62 : (Tryz.prog.info? 177).map (·.size) = some 64 := by kernel_rfl
theorem all_one {cs : Array Value} (h : ∀ i, i < cs.size → ∃ k v, cs[i]? = some (.int k v)) : cs.all (·.oneCell') = true := by
  rw [Array.all_eq_true_iff_forall_mem]
  intro v hv
  obtain ⟨i, hi, rfl⟩ := Array.getElem_of_mem hv
  obtain ⟨k, x, e⟩ := h i hi
  rw [Array.getElem?_eq_getElem hi] at e
  rw [Option.some.inj e]
  rfl
theorem below_setRow {B g : Nat} {w w' : World} (h : Below B w w') (hg : B ≤ g) (cs : Array Value) : Below B w (w'.setRow g cs) :=
  ⟨h.os, h.tape, h.output, by simp; exact h.size, fun i hi => (setRow_other w' g i cs (by omega)).trans (h.block i hi)⟩
theorem s1_spelt {x : Nat} (h : x < 4294967296) : bits .xor .u32 (bits .xor .u32 ((rot x 17 : Nat) : Int) ((rot x 19 : Nat) : Int)) ((x : Int) / 1024) = ((s1 x : Nat) : Int) := by
  have e : (x : Int) / (1024 : Int) = ((x >>> 10 : Nat) : Int) := by rw [Nat.shiftRight_eq_div_pow]; omega
  have l : x >>> 10 < 4294967296 := by rw [Nat.shiftRight_eq_div_pow]; omega
  rw [e, u32_xor_nat _ _ (rot_lt 17 h) (rot_lt 19 h), u32_xor_nat _ _ (xor_lt (rot_lt 17 h) (rot_lt 19 h)) l]
  rfl

set_option maxRecDepth 100000 in
set_option maxHeartbeats 8000000 in
theorem sched_any (w : World) (a : Option Addr) (b off c : Nat) (B : Nat → Nat) (h : View w a b off 64 (fun i => (B i : Int))) (hB : ∀ i, B i < 256) :
    Calls Tryz.prog 117 #[.slice a 64 c] w fun e w' => (∃ cs : Array Value, e = .returned (.agg cs) ∧ cs.size = 64 ∧ ∀ i, i < 64 → cs[i]? = some (.int .u32 (sched B i))) ∧ Below w.heap.size w w' := by
  obtain rfl := h.at_ (by omega)
  have hb := h.lt (by omega)
  go_enter Tryz.func117, Tryz.ntmps117
  go_wp2
  go_loopg [8] 16 (fun g i wr => ∃ k : Nat, k ≤ 16 ∧ g = 16 - k ∧ i = .int .i64 k ∧ Two64 w wr (fun i => if i < k then sched B i else 0))
  case atStart => exact ⟨0, by omega, rfl, rfl, (two64_start w).congr (fun i _ => by simp)⟩
  case round =>
    obtain ⟨k, hk, rfl, rfl, hR⟩ := hrel
    by_cases hkn : k < 16
    · have c0 : wr.cell? ⟨b, off + 4 * k, none⟩ = some (.int .u8 (B (4 * k))) := (hR.below.cell (p := ⟨b, off + 4 * k, none⟩) hb).trans (h.cell (4 * k) (by omega))
      have c1 : wr.cell? ⟨b, off + (4 * k + 1), none⟩ = some (.int .u8 (B (4 * k + 1))) := (hR.below.cell (p := ⟨b, off + (4 * k + 1), none⟩) hb).trans (h.cell (4 * k + 1) (by omega))
      have c2 : wr.cell? ⟨b, off + (4 * k + 2), none⟩ = some (.int .u8 (B (4 * k + 2))) := (hR.below.cell (p := ⟨b, off + (4 * k + 2), none⟩) hb).trans (h.cell (4 * k + 2) (by omega))
      have c3 : wr.cell? ⟨b, off + (4 * k + 3), none⟩ = some (.int .u8 (B (4 * k + 3))) := (hR.below.cell (p := ⟨b, off + (4 * k + 3), none⟩) hb).trans (h.cell (4 * k + 3) (by omega))
      have fz := hR.row.frozen k
      have cc := hR.row.cell (i := k) (by omega)
      simp only [Nat.lt_irrefl, if_false] at cc
      have HR : Hid (Two64 w wr (fun i => if i < k then sched B i else 0)) := hR
      clear hR
      go_wp2
      go_region
      go_wp2
      rw [be_spelt hB k]
      clear cc fz c0 c1 c2 c3
      go_roundg (16 - (k + 1))
      case measure => omega
      case rel =>
        refine ⟨k + 1, by omega, rfl, by go_num, ((HR.out.set k (be B k)).drew).congr (fun i _ => ?_)⟩
        by_cases e : i = k
        · subst e
          rw [if_pos rfl, if_pos (by omega), sched_low B hkn]
        · rw [if_neg e]
          by_cases e2 : i < k
          · rw [if_pos e2, if_pos (by omega)]
          · rw [if_neg e2, if_neg (by omega)]
    · have : k = 16 := by omega
      subst this
      go_wp2
      have HR : Hid (Two64 w wr (fun i => if i < 16 then sched B i else 0)) := hR
      clear hR
      go_loopg [5] 48 (fun g i wr => ∃ k : Nat, 16 ≤ k ∧ k ≤ 64 ∧ g = 64 - k ∧ i = .int .i64 k ∧ Two64 w wr (fun i => if i < k then sched B i else 0))
      case atStart => exact ⟨16, by omega, by omega, rfl, rfl, HR⟩
      case round =>
        clear HR
        obtain ⟨k, hk0, hk, rfl, rfl, hR⟩ := hrel
        by_cases hkn : k < 64
        · have c2 := hR.row.cell (i := k - 2) (by omega)
          have c7 := hR.row.cell (i := k - 7) (by omega)
          have c15 := hR.row.cell (i := k - 15) (by omega)
          have c16 := hR.row.cell (i := k - 16) (by omega)
          rw [if_pos (by omega)] at c2 c7 c15 c16
          have l2 := sched_lt hB (k - 2)
          have l7 := sched_lt hB (k - 7)
          have l15 := sched_lt hB (k - 15)
          have l16 := sched_lt hB (k - 16)
          have E := sched_high B hk0
          obtain ⟨x2, h2⟩ : ∃ x, x = sched B (k - 2) := ⟨_, rfl⟩
          obtain ⟨x7, h7⟩ : ∃ x, x = sched B (k - 7) := ⟨_, rfl⟩
          obtain ⟨x15, h15⟩ : ∃ x, x = sched B (k - 15) := ⟨_, rfl⟩
          obtain ⟨x16, h16⟩ : ∃ x, x = sched B (k - 16) := ⟨_, rfl⟩
          rw [← h2] at c2 l2
          rw [← h7] at c7 l7
          rw [← h15] at c15 l15
          rw [← h16] at c16 l16
          rw [← h2, ← h7, ← h15, ← h16] at E
          clear h2 h7 h15 h16
          have HE : Hid (sched B k = wnew x2 x7 x15 x16) := E
          clear E
          have fz := hR.row.frozen k
          have cc := hR.row.cell (i := k) (by omega)
          simp only [Nat.lt_irrefl, if_false] at cc
          have HR : Hid (Two64 w wr (fun i => if i < k then sched B i else 0)) := hR
          clear hR
          go_wp2
          refine wp_region_quiet_lit (by kernel_rfl) (by kernel_rfl) ?_
          repeat (go_big_quiet_step (fail))
          go_big_quiet_step (first | (go_at_call 118; refine Calls.quiet_of_same (rotR_any _ x15 7 l15 (by omega) (by omega))))
          repeat (go_big_quiet_step (fail))
          go_big_quiet_step (first | (go_at_call 118; refine Calls.quiet_of_same (rotR_any _ x15 18 l15 (by omega) (by omega))))
          repeat (go_big_quiet_step (fail))
          refine wpQuiet_nil ?_
          intro wz hwz
          obtain ⟨nq, rfl⟩ := hwz
          obtain ⟨wq, hwq⟩ : ∃ x, x = wr.drewN nq := ⟨_, rfl⟩
          rw [← hwq]
          have d2 : wq.cell? ⟨w.heap.size + 1, k - 2, none⟩ = some (.int .u32 x2) := by rw [hwq]; exact c2
          have d7 : wq.cell? ⟨w.heap.size + 1, k - 7, none⟩ = some (.int .u32 x7) := by rw [hwq]; exact c7
          have d16 : wq.cell? ⟨w.heap.size + 1, k - 16, none⟩ = some (.int .u32 x16) := by rw [hwq]; exact c16
          have HQ : Hid (Two64 w wq (fun i => if i < k then sched B i else 0)) := by rw [hwq]; exact HR.out.drewN nq
          clear hwq c2 c7 c15 c16 HR fz cc
          go_wp2
          refine wp_region_quiet_lit (by kernel_rfl) (by kernel_rfl) ?_
          repeat (go_big_quiet_step (fail))
          go_big_quiet_step (first | (go_at_call 118; refine Calls.quiet_of_same (rotR_any _ x2 17 l2 (by omega) (by omega))))
          repeat (go_big_quiet_step (fail))
          go_big_quiet_step (first | (go_at_call 118; refine Calls.quiet_of_same (rotR_any _ x2 19 l2 (by omega) (by omega))))
          repeat (go_big_quiet_step (fail))
          refine wpQuiet_nil ?_
          intro wz hwz
          obtain ⟨nq, rfl⟩ := hwz
          go_wp2
          obtain ⟨wp, hwp⟩ : ∃ x, x = wq.drewN nq := ⟨_, rfl⟩
          rw [← hwp]
          have c7 : wp.cell? ⟨w.heap.size + 1, k - 7, none⟩ = some (.int .u32 x7) := by rw [hwp]; exact d7
          have c16 : wp.cell? ⟨w.heap.size + 1, k - 16, none⟩ = some (.int .u32 x16) := by rw [hwp]; exact d16
          have HR : Hid (Two64 w wp (fun i => if i < k then sched B i else 0)) := by rw [hwp]; exact HQ.out.drewN nq
          clear hwp d2 d7 d16 HQ
          have fz := HR.out.row.frozen k
          have cc := HR.out.row.cell (i := k) (by omega)
          simp only [Nat.lt_irrefl, if_false] at cc
          rw [s0_spelt l15, s1_spelt l2]
          have m0 := s0_lt l15
          have m1 := s1_lt l2
          obtain ⟨y0, hy0⟩ : ∃ y, y = s0 x15 := ⟨_, rfl⟩
          obtain ⟨y1, hy1⟩ : ∃ y, y = s1 x2 := ⟨_, rfl⟩
          rw [← hy0] at m0 ⊢
          rw [← hy1] at m1 ⊢
          have Hy : Hid (y0 = s0 x15 ∧ y1 = s1 x2) := ⟨hy0, hy1⟩
          clear hy0 hy1
          go_wp2
          go_region
          go_wp2
          have V : ((y1 : Int) + (x7 : Int) + (y0 : Int) + (x16 : Int)) % 4294967296 = ((sched B k : Nat) : Int) := by
            rw [HE.out, Hy.out.1, Hy.out.2]
            simp only [wnew, M]
            omega
          rw [V]
          clear cc fz c7 c16
          go_roundg (64 - (k + 1))
          case measure => omega
          case rel =>
            refine ⟨k + 1, by omega, by omega, rfl, by go_num, ((HR.out.set k (sched B k)).drew).congr (fun i _ => ?_)⟩
            by_cases e : i = k
            · subst e
              rw [if_pos rfl, if_pos (by omega)]
            · rw [if_neg e]
              by_cases e2 : i < k
              · rw [if_pos e2, if_pos (by omega)]
              · rw [if_neg e2, if_neg (by omega)]
        · have : k = 64 := by omega
          subst this
          obtain ⟨cs, hg, hsz, hcs⟩ := hR.row
          obtain ⟨os, og, osz, _⟩ := hR.out
          have hi : (Tryz.prog.info? 177).map (·.size) = some cs.size := by rw [hsz]; exact info62
          have h1 : cs.all (·.oneCell') = true := all_one (fun i hi => ⟨_, _, hcs i (by omega)⟩)
          have HR : Hid (Two64 w wr (fun i => if i < 64 then sched B i else 0)) := hR
          clear hR
          go_wp2_with (first
            | refine wpList_load_row rfl 177 (.tmp 3) rfl (w.heap.size + 1) rfl 177 cs (0, 0) _ hg Tryz.underlying177 rfl hi ?_
            | refine wpList_store_row rfl 177 (.tmp 2) (.tmp 100) rfl w.heap.size cs rfl rfl 177 os og hi (by omega) h1 ?_)
          refine bodyPost_ret (v := .agg cs) ?_ rfl ?_
          · exact results_cell_row rfl _ _ w.heap.size 177 cs (0, 0) _ rfl (setRow_heap _ _ _ _ _ _ og) Tryz.underlying177 rfl hi
          refine ⟨⟨cs, rfl, hsz, fun i hi => by rw [hcs i hi, if_pos hi]⟩, below_setRow HR.out.below (Nat.le_refl _) _⟩
end Go.Proofs.YtepeolbbplodfaaGreatDoor.Dg

/-
  A block taken into the words: the program's way.
-/
namespace Go.Proofs.YtepeolbbplodfaaGreatDoor.Dg
open Go.RowKit

def arr8 (s : W8) : Array Value := #[.int .u32 s.a, .int .u32 s.b, .int .u32 s.c, .int .u32 s.d, .int .u32 s.e, .int .u32 s.f, .int .u32 s.g, .int .u32 s.h]
def w8 (s : W8) (i : Nat) : Nat := match i with | 0 => s.a | 1 => s.b | 2 => s.c | 3 => s.d | 4 => s.e | 5 => s.f | 6 => s.g | _ => s.h
/-- the program's table of sixty-four words -/
def Roots (w : World) : Prop := ∀ i, i < 64 → w.cell? ⟨2, i, none⟩ = some (.int .u32 (K i))
theorem Roots.below {w w' : World} (h : Roots w) {B : Nat} (hb : Below B w w') (hB : 2 < B) : Roots w' := fun i hi => (hb.cell (p := ⟨2, i, none⟩) hB).trans (h i hi)

theorem arr8_cell (s : W8) : ∀ i, i < 8 → (arr8 s)[i]? = some (.int .u32 (w8 s i)) := by
  intro i hi
  match i, hi with
  | 0, _ => rfl
  | 1, _ => rfl
  | 2, _ => rfl
  | 3, _ => rfl
  | 4, _ => rfl
  | 5, _ => rfl
  | 6, _ => rfl
  | 7, _ => rfl

/-- the loop's world: the words that came in, the answer's block, the block's sixty-four words -/
structure Fo (w wr : World) (s : W8) (g : Nat) (f : Nat → Nat) : Prop where
  below : Below w.heap.size w wr
  low : w.heap.size + 2 ≤ g
  in_ : wr.rowIs w.heap.size 147 8 (fun i => .int .u32 (w8 s i))
  out : ∃ f', wr.rowIs (w.heap.size + 1) 147 8 f'
  row : wr.rowIs g 177 64 (fun i => .int .u32 (f i))
  roots : Roots wr
theorem Fo.drewN {w wr : World} {s : W8} {g : Nat} {f : Nat → Nat} (h : Fo w wr s g f) (q : Nat) : Fo w (wr.drewN q) s g f :=
  ⟨below_drewN h.below q, h.low, h.in_.of_block rfl, let ⟨f', hf⟩ := h.out; ⟨f', hf.of_block rfl⟩, h.row.of_block rfl, h.roots⟩

theorem rowIs_setRow {w : World} {g t n : Nat} {old cs : Array Value} {f : Nat → Value} (hg : w.heap[g]? = some (.cells old t (0, 0))) (hn : cs.size = n) (hc : ∀ i, i < n → cs[i]? = some (f i)) : (w.setRow g cs).rowIs g t n f :=
  ⟨cs, setRow_heap w g old cs t (0, 0) hg, hn, hc⟩

theorem fo_start (w w2 : World) (s : W8) (cs : Array Value) (f : Nat → Nat) (hsz : cs.size = 64) (hcs : ∀ i, i < 64 → cs[i]? = some (.int .u32 (f i)))
    (hb : Below ((w.alloc (.cells (arr8 s) 147)).alloc (.cells #[.int .u32 0, .int .u32 0, .int .u32 0, .int .u32 0, .int .u32 0, .int .u32 0, .int .u32 0, .int .u32 0] 147)).heap.size ((w.alloc (.cells (arr8 s) 147)).alloc (.cells #[.int .u32 0, .int .u32 0, .int .u32 0, .int .u32 0, .int .u32 0, .int .u32 0, .int .u32 0, .int .u32 0] 147)) w2)
    (hK : Roots w) (hw : 2 < w.heap.size) : Fo w ((w2.alloc (.cells Z64 177)).setRow w2.heap.size cs) s w2.heap.size f := by
  have hs := hb.size
  simp only [World.size_alloc] at hs hb
  have b0 : Below w.heap.size w w2 := (((Below.refl _ _).alloc (Nat.le_refl _) _).alloc (by simp) _).trans (hb.mono (by omega))
  have b1 : Below w.heap.size w ((w2.alloc (.cells Z64 177)).setRow w2.heap.size cs) := below_setRow (b0.alloc (by omega) _) (by omega) _
  have oth : ∀ i, i < w2.heap.size → ((w2.alloc (.cells Z64 177)).setRow w2.heap.size cs).heap[i]? = w2.heap[i]? := fun i hi => by
    rw [setRow_other _ _ _ _ (by omega), heap_alloc_old _ _ hi]
  refine ⟨b1, by omega, ?_, ?_, rowIs_setRow (heap_alloc_new _ _) hsz hcs, hK.below b1 hw⟩
  · have r := World.rowIs_alloc w (arr8 s) 147 (fun i => .int .u32 (w8 s i)) (fun i hi => arr8_cell s i hi)
    exact ((r.alloc (.cells #[.int .u32 0, .int .u32 0, .int .u32 0, .int .u32 0, .int .u32 0, .int .u32 0, .int .u32 0, .int .u32 0] 147)).of_block (hb.block _ (by omega))).of_block (oth _ (by omega))
  · have r := zeros_row (w.alloc (.cells (arr8 s) 147)) (.int .u32 0) 8 147
    rw [World.size_alloc] at r
    exact ⟨_, (r.of_block (hb.block _ (by omega))).of_block (oth _ (by omega))⟩

theorem and_lt {x y : Nat} (h : x < 4294967296) : x &&& y < 4294967296 := Nat.lt_of_le_of_lt Nat.and_le_left h
theorem not_spelt {e : Nat} (h : e < 4294967296) : bits .xor .u32 (if IntKind.u32.signed = true then -1 else IntKind.u32.max) (e : Int) = ((4294967295 ^^^ e : Nat) : Int) := by
  have m : (if IntKind.u32.signed = true then -1 else IntKind.u32.max) = ((4294967295 : Nat) : Int) := by decide
  rw [m, u32_xor_nat _ _ (by decide) h]
theorem big1_spelt {e : Nat} (h : e < 4294967296) : bits .xor .u32 (bits .xor .u32 ((rot e 6 : Nat) : Int) ((rot e 11 : Nat) : Int)) ((rot e 25 : Nat) : Int) = ((big1 e : Nat) : Int) := by
  rw [u32_xor_nat _ _ (rot_lt 6 h) (rot_lt 11 h), u32_xor_nat _ _ (xor_lt (rot_lt 6 h) (rot_lt 11 h)) (rot_lt 25 h)]
  rfl
theorem big0_spelt {e : Nat} (h : e < 4294967296) : bits .xor .u32 (bits .xor .u32 ((rot e 2 : Nat) : Int) ((rot e 13 : Nat) : Int)) ((rot e 22 : Nat) : Int) = ((big0 e : Nat) : Int) := by
  rw [u32_xor_nat _ _ (rot_lt 2 h) (rot_lt 13 h), u32_xor_nat _ _ (xor_lt (rot_lt 2 h) (rot_lt 13 h)) (rot_lt 22 h)]
  rfl
theorem pick_spelt {e f g : Nat} (h : e < 4294967296) (hf : f < 4294967296) (hg : g < 4294967296) :
    bits .xor .u32 (bits .and .u32 (e : Int) (f : Int)) (bits .and .u32 (bits .xor .u32 (if IntKind.u32.signed = true then -1 else IntKind.u32.max) (e : Int)) (g : Int)) = ((pick e f g : Nat) : Int) := by
  have l : 4294967295 ^^^ e < 4294967296 := xor_lt (by decide) h
  rw [not_spelt h, u32_and_nat _ _ h hf, u32_and_nat _ _ l hg, u32_xor_nat _ _ (and_lt h) (and_lt l)]
  rfl
theorem most_spelt {a b c : Nat} (ha : a < 4294967296) (hb : b < 4294967296) (hc : c < 4294967296) :
    bits .xor .u32 (bits .xor .u32 (bits .and .u32 (a : Int) (b : Int)) (bits .and .u32 (a : Int) (c : Int))) (bits .and .u32 (b : Int) (c : Int)) = ((most a b c : Nat) : Int) := by
  rw [u32_and_nat _ _ ha hb, u32_and_nat _ _ ha hc, u32_and_nat _ _ hb hc, u32_xor_nat _ _ (and_lt ha) (and_lt ha), u32_xor_nat _ _ (xor_lt (and_lt ha) (and_lt ha)) (and_lt hb)]
  rfl

theorem info51 : (Tryz.prog.info? 147).map (·.size) = some 8 := by kernel_rfl
def sum8 (s t : W8) : Array Value := #[.int .u32 (((s.a : Int) + (t.a : Int)) % 4294967296), .int .u32 (((s.b : Int) + (t.b : Int)) % 4294967296), .int .u32 (((s.c : Int) + (t.c : Int)) % 4294967296), .int .u32 (((s.d : Int) + (t.d : Int)) % 4294967296), .int .u32 (((s.e : Int) + (t.e : Int)) % 4294967296), .int .u32 (((s.f : Int) + (t.f : Int)) % 4294967296), .int .u32 (((s.g : Int) + (t.g : Int)) % 4294967296), .int .u32 (((s.h : Int) + (t.h : Int)) % 4294967296)]
theorem sum8_eq (s t : W8) : sum8 s t = arr8 (plus s t) := by
  simp [sum8, arr8, plus, M]
theorem one8 (s t : W8) : (sum8 s t).all (·.oneCell') = true := by
  rw [sum8_eq]
  exact all_one (fun i hi => ⟨_, _, arr8_cell (plus s t) i hi⟩)
set_option maxRecDepth 100000 in
set_option maxHeartbeats 8000000 in
theorem folded_any (w : World) (s : W8) (hs : Ok8 s) (a : Option Addr) (b off c : Nat) (B : Nat → Nat) (h : View w a b off 64 (fun i => (B i : Int))) (hB : ∀ i, B i < 256) (hK : Roots w) (hw : 2 < w.heap.size) :
    Calls Tryz.prog 93 #[.agg (arr8 s), .slice a 64 c] w fun e w' => e = .returned (.agg (arr8 (fold1 s B))) ∧ Below w.heap.size w w' := by
  go_enter Tryz.func93, Tryz.ntmps93
  go_wp2_with fail
  refine (sched_any _ a b off c B (h.below (((Below.refl _ _).alloc (Nat.le_refl _) _).alloc (by simp) _)) hB).mono ?_
  rintro _ w2 ⟨⟨cs, rfl, hsz, hcs⟩, hb2⟩
  have hi : (Tryz.prog.info? 177).map (·.size) = some cs.size := by rw [hsz]; exact info62
  have h1 : cs.all (·.oneCell') = true := all_one (fun i hi => ⟨_, _, hcs i (by omega)⟩)
  go_wp2_with (refine wpList_store_row rfl 177 (.tmp 5) (.tmp 18) rfl w2.heap.size cs rfl rfl 177 Z64 (heap_alloc_new _ _) hi hsz.symm h1 ?_)
  have F := fo_start w w2 s cs (sched B) hsz hcs hb2 hK hw
  obtain ⟨wm, hwm⟩ : ∃ x, x = (w2.alloc (.cells Z64 177)).setRow w2.heap.size cs := ⟨_, rfl⟩
  rw [← hwm] at F
  delta Z64 at hwm
  rw [← hwm]
  obtain ⟨g5, hg5⟩ : ∃ x, x = w2.heap.size := ⟨_, rfl⟩
  rw [← hg5] at F ⊢
  clear hwm hg5 hb2 hcs h1 hi hsz
  have i0 := F.in_.cell (i := 0) (by omega)
  have i1 := F.in_.cell (i := 1) (by omega)
  have i2 := F.in_.cell (i := 2) (by omega)
  have i3 := F.in_.cell (i := 3) (by omega)
  have i4 := F.in_.cell (i := 4) (by omega)
  have i5 := F.in_.cell (i := 5) (by omega)
  have i6 := F.in_.cell (i := 6) (by omega)
  have i7 := F.in_.cell (i := 7) (by omega)
  simp only [w8] at i0 i1 i2 i3 i4 i5 i6 i7
  have HF : Hid (Fo w wm s g5 (sched B)) := F
  clear F
  go_quiet (fail)
  have HF2 : Hid (Fo w (wm.drewN nq) s g5 (sched B)) := HF.out.drewN nq
  clear HF i0 i1 i2 i3 i4 i5 i6 i7
  go_wp2
  go_loopg [35, 6, 7, 8, 9, 10, 11, 12, 13] 64 (fun g i va vb vc vd ve vf vg vh wr => ∃ k : Nat, k ≤ 64 ∧ g = 64 - k ∧ i = .int .i64 k ∧ va = .int .u32 (turns K (sched B) s k).a ∧ vb = .int .u32 (turns K (sched B) s k).b ∧ vc = .int .u32 (turns K (sched B) s k).c ∧ vd = .int .u32 (turns K (sched B) s k).d ∧ ve = .int .u32 (turns K (sched B) s k).e ∧ vf = .int .u32 (turns K (sched B) s k).f ∧ vg = .int .u32 (turns K (sched B) s k).g ∧ vh = .int .u32 (turns K (sched B) s k).h ∧ Fo w wr s g5 (sched B))
  case atStart => exact ⟨0, by omega, rfl, rfl, rfl, rfl, rfl, rfl, rfl, rfl, rfl, rfl, HF2.out⟩
  case round =>
    obtain ⟨k, hk, rfl, rfl, rfl, rfl, rfl, rfl, rfl, rfl, rfl, rfl, hR⟩ := hrel
    clear HF2
    by_cases hkn : k < 64
    · have T := turns_ok hs K (sched B) k
      obtain ⟨t, ht⟩ : ∃ t, t = turns K (sched B) s k := ⟨_, rfl⟩
      have cK := hR.roots k hkn
      have cW := hR.row.cell hkn
      have lK := K_lt k hkn
      have lW := sched_lt hB k
      have Ht : Hid (turns K (sched B) s (k + 1) = turn1 t (K k) (sched B k)) := by rw [ht]; rfl
      rw [← ht] at T ⊢
      clear ht
      obtain ⟨x1, e1⟩ : ∃ x, x = K k := ⟨_, rfl⟩
      obtain ⟨x2, e2⟩ : ∃ x, x = sched B k := ⟨_, rfl⟩
      rw [← e1] at cK lK Ht
      rw [← e2] at cW lW Ht
      clear e1 e2
      obtain ⟨ta, tb, tc, td, te, tf, tg, th⟩ := t
      obtain ⟨la, lb, lc, ld, le, lf, lg, lh⟩ := T
      have HR : Hid (Fo w wr s g5 (sched B)) := hR
      clear hR
      simp only at la lb lc ld le lf lg lh ⊢
      go_wp2
      refine wp_region_quiet_lit (by kernel_rfl) (by kernel_rfl) ?_
      repeat (go_big_quiet_step (fail))
      go_big_quiet_step (first | (go_at_call 118; refine Calls.quiet_of_same (rotR_any _ te 6 le (by omega) (by omega))))
      repeat (go_big_quiet_step (fail))
      go_big_quiet_step (first | (go_at_call 118; refine Calls.quiet_of_same (rotR_any _ te 11 le (by omega) (by omega))))
      repeat (go_big_quiet_step (fail))
      go_big_quiet_step (first | (go_at_call 118; refine Calls.quiet_of_same (rotR_any _ te 25 le (by omega) (by omega))))
      repeat (go_big_quiet_step (fail))
      refine wpQuiet_nil ?_
      intro wz hwz
      obtain ⟨nq, rfl⟩ := hwz
      have HQ : Hid (Fo w (wr.drewN nq) s g5 (sched B)) := HR.out.drewN nq
      clear HR cK cW
      have V : ((((th : Int) + bits .xor .u32 (bits .xor .u32 ((rot te 6 : Nat) : Int) ((rot te 11 : Nat) : Int)) ((rot te 25 : Nat) : Int) + bits .xor .u32 (bits .and .u32 (te : Int) (tf : Int)) (bits .and .u32 (bits .xor .u32 (if IntKind.u32.signed = true then -1 else IntKind.u32.max) (te : Int)) (tg : Int)) + (x1 : Int)) % 4294967296 + (x2 : Int)) % 4294967296) = ((t1 ⟨ta, tb, tc, td, te, tf, tg, th⟩ x1 x2 : Nat) : Int) := by
        rw [big1_spelt le, pick_spelt le lf lg]
        simp only [t1, M]
        omega
      rw [V]
      have l1 : t1 ⟨ta, tb, tc, td, te, tf, tg, th⟩ x1 x2 < 4294967296 := Nat.mod_lt _ (by decide)
      obtain ⟨y1, hy1⟩ : ∃ y, y = t1 ⟨ta, tb, tc, td, te, tf, tg, th⟩ x1 x2 := ⟨_, rfl⟩
      have Hy : Hid (t1 ⟨ta, tb, tc, td, te, tf, tg, th⟩ x1 x2 = y1) := hy1.symm
      rw [← hy1] at l1 ⊢
      clear hy1 V
      obtain ⟨wq, hwq⟩ : ∃ x, x = wr.drewN nq := ⟨_, rfl⟩
      rw [← hwq] at HQ ⊢
      clear hwq
      go_wp2_with fail
      refine (rotR_any _ ta 2 la (by omega) (by omega)).mono ?_
      rintro _ _ ⟨rfl, rfl⟩
      go_wp2_with fail
      refine (rotR_any _ ta 13 la (by omega) (by omega)).mono ?_
      rintro _ _ ⟨rfl, rfl⟩
      go_wp2_with fail
      refine (rotR_any _ ta 22 la (by omega) (by omega)).mono ?_
      rintro _ _ ⟨rfl, rfl⟩
      go_wp2_with fail
      go_roundg (64 - (k + 1))
      case measure => omega
      case rel =>
        refine ⟨k + 1, by omega, rfl, by go_num, ?_, ?_, ?_, ?_, ?_, ?_, ?_, ?_, HQ.out⟩
        all_goals rw [Ht.out]
        all_goals simp only [turn1]
        · congr 1
          rw [big0_spelt la, most_spelt la lb lc, Hy.out]
          simp only [t2, M]
          omega
        · congr 1
          rw [Hy.out]
          simp only [M]
          omega
    · have : k = 64 := by omega
      subst this
      have i0 := hR.in_.cell (i := 0) (by omega)
      have i1 := hR.in_.cell (i := 1) (by omega)
      have i2 := hR.in_.cell (i := 2) (by omega)
      have i3 := hR.in_.cell (i := 3) (by omega)
      have i4 := hR.in_.cell (i := 4) (by omega)
      have i5 := hR.in_.cell (i := 5) (by omega)
      have i6 := hR.in_.cell (i := 6) (by omega)
      have i7 := hR.in_.cell (i := 7) (by omega)
      simp only [w8] at i0 i1 i2 i3 i4 i5 i6 i7
      obtain ⟨f', hf'⟩ := hR.out
      obtain ⟨os, og, osz, _⟩ := hf'
      have T := turns_ok hs K (sched B) 64
      obtain ⟨t, ht⟩ : ∃ t, t = turns K (sched B) s 64 := ⟨_, rfl⟩
      have Hf : Hid (fold1 s B = plus s t) := by rw [ht]; rfl
      rw [← ht] at T ⊢
      clear ht
      have HR : Hid (Fo w wr s g5 (sched B)) := hR
      clear hR
      go_wp2_with (refine wpList_store_row rfl 147 (.tmp 4) (.tmp 130) rfl (w.heap.size + 1) (sum8 s t) rfl rfl 147 os og info51 osz (one8 s t) ?_)
      refine bodyPost_ret (v := .agg (sum8 s t)) ?_ rfl ?_
      · exact results_cell_row rfl _ _ (w.heap.size + 1) 147 (sum8 s t) (0, 0) _ rfl (setRow_heap _ _ _ _ _ _ og) Tryz.underlying147 rfl info51
      exact ⟨by rw [sum8_eq, Hf.out], below_setRow HR.out.below (by omega) _⟩
end Go.Proofs.YtepeolbbplodfaaGreatDoor.Dg

/-
  A word turned right, the reference's way.
-/
namespace Go.Proofs.YtepeolbbplodfaaGreatDoor.Dg
open Go.RowKit

set_option maxHeartbeats 400000 in
theorem turned_any (w : World) (x : Nat) (n : Nat) (h2 : x < 4294967296) (hn : 1 ≤ n) (hm : n ≤ 31) :
    Calls Tryz.prog 109 #[.int .u32 x, .int .i64 (n : Int)] w fun e w' => e = .returned (.int .u32 (rot x n)) ∧ ∃ q, w' = w.drewN q := by
  go_enter Tryz.func109, Tryz.ntmps109
  go_wp2
  go_quiet (fail)
  go_wp2
  rw [turn_or x n h2]
  go_ret
  exact ⟨rfl, nq, rfl⟩
end Go.Proofs.YtepeolbbplodfaaGreatDoor.Dg

/-
  A block's sixty-four words: the document's way.
-/
namespace Go.Proofs.YtepeolbbplodfaaGreatDoor.Dg
open Go.RowKit

theorem two64_drew {w w1 w2 : World} {f : Nat → Nat} (h : Hid (Two64 w w1 f)) (hq : ∃ q, w2 = w1.drewN q) : Hid (Two64 w w2 f) := by
  obtain ⟨q, rfl⟩ := hq
  exact h.out.drewN q

set_option maxRecDepth 100000 in
set_option maxHeartbeats 8000000 in
theorem rwords_any (w : World) (a : Option Addr) (b off c : Nat) (B : Nat → Nat) (h : View w a b off 64 (fun i => (B i : Int))) (hB : ∀ i, B i < 256) :
    Calls Tryz.prog 108 #[.slice a 64 c] w fun e w' => (∃ cs : Array Value, e = .returned (.agg cs) ∧ cs.size = 64 ∧ ∀ i, i < 64 → cs[i]? = some (.int .u32 (sched B i))) ∧ Below w.heap.size w w' := by
  obtain rfl := h.at_ (by omega)
  have hb := h.lt (by omega)
  go_enter Tryz.func108, Tryz.ntmps108
  go_wp2
  go_loopg [4] 16 (fun g i wr => ∃ k : Nat, k ≤ 16 ∧ g = 16 - k ∧ i = .int .i64 k ∧ Two64 w wr (fun i => if i < k then sched B i else 0))
  case atStart => exact ⟨0, by omega, rfl, rfl, (two64_start w).congr (fun i _ => by simp)⟩
  case round =>
    obtain ⟨k, hk, rfl, rfl, hR⟩ := hrel
    by_cases hkn : k < 16
    · have c0 : wr.cell? ⟨b, off + 4 * k, none⟩ = some (.int .u8 (B (4 * k))) := (hR.below.cell (p := ⟨b, off + 4 * k, none⟩) hb).trans (h.cell (4 * k) (by omega))
      have c1 : wr.cell? ⟨b, off + (4 * k + 1), none⟩ = some (.int .u8 (B (4 * k + 1))) := (hR.below.cell (p := ⟨b, off + (4 * k + 1), none⟩) hb).trans (h.cell (4 * k + 1) (by omega))
      have c2 : wr.cell? ⟨b, off + (4 * k + 2), none⟩ = some (.int .u8 (B (4 * k + 2))) := (hR.below.cell (p := ⟨b, off + (4 * k + 2), none⟩) hb).trans (h.cell (4 * k + 2) (by omega))
      have c3 : wr.cell? ⟨b, off + (4 * k + 3), none⟩ = some (.int .u8 (B (4 * k + 3))) := (hR.below.cell (p := ⟨b, off + (4 * k + 3), none⟩) hb).trans (h.cell (4 * k + 3) (by omega))
      have fz := hR.row.frozen k
      have cc := hR.row.cell (i := k) (by omega)
      simp only [Nat.lt_irrefl, if_false] at cc
      have HR : Hid (Two64 w wr (fun i => if i < k then sched B i else 0)) := hR
      clear hR
      go_wp2
      go_region
      go_wp2
      rw [be_spelt hB k]
      clear cc fz c0 c1 c2 c3
      go_roundg (16 - (k + 1))
      case measure => omega
      case rel =>
        refine ⟨k + 1, by omega, rfl, by go_num, ((HR.out.set k (be B k)).drew).congr (fun i _ => ?_)⟩
        by_cases e : i = k
        · subst e
          rw [if_pos rfl, if_pos (by omega), sched_low B hkn]
        · rw [if_neg e]
          by_cases e2 : i < k
          · rw [if_pos e2, if_pos (by omega)]
          · rw [if_neg e2, if_neg (by omega)]
    · have : k = 16 := by omega
      subst this
      go_wp2
      have HR : Hid (Two64 w wr (fun i => if i < 16 then sched B i else 0)) := hR
      clear hR
      go_loopg [5] 48 (fun g i wr => ∃ k : Nat, 16 ≤ k ∧ k ≤ 64 ∧ g = 64 - k ∧ i = .int .i64 k ∧ Two64 w wr (fun i => if i < k then sched B i else 0))
      case atStart => exact ⟨16, by omega, by omega, rfl, rfl, HR⟩
      case round =>
        clear HR
        obtain ⟨k, hk0, hk, rfl, rfl, hR⟩ := hrel
        by_cases hkn : k < 64
        · have c2 := hR.row.cell (i := k - 2) (by omega)
          have c7 := hR.row.cell (i := k - 7) (by omega)
          have c15 := hR.row.cell (i := k - 15) (by omega)
          have c16 := hR.row.cell (i := k - 16) (by omega)
          rw [if_pos (by omega)] at c2 c7 c15 c16
          have l2 := sched_lt hB (k - 2)
          have l7 := sched_lt hB (k - 7)
          have l15 := sched_lt hB (k - 15)
          have l16 := sched_lt hB (k - 16)
          have E := sched_high B hk0
          obtain ⟨x2, h2⟩ : ∃ x, x = sched B (k - 2) := ⟨_, rfl⟩
          obtain ⟨x7, h7⟩ : ∃ x, x = sched B (k - 7) := ⟨_, rfl⟩
          obtain ⟨x15, h15⟩ : ∃ x, x = sched B (k - 15) := ⟨_, rfl⟩
          obtain ⟨x16, h16⟩ : ∃ x, x = sched B (k - 16) := ⟨_, rfl⟩
          rw [← h2] at c2 l2
          rw [← h7] at c7 l7
          rw [← h15] at c15 l15
          rw [← h16] at c16 l16
          rw [← h2, ← h7, ← h15, ← h16] at E
          have H7 : Hid (x7 = sched B (k - 7) ∧ x16 = sched B (k - 16)) := ⟨h7, h16⟩
          clear h2 h7 h15 h16
          have HE : Hid (sched B k = wnew x2 x7 x15 x16) := E
          clear E
          have fz := hR.row.frozen k
          have cc := hR.row.cell (i := k) (by omega)
          simp only [Nat.lt_irrefl, if_false] at cc
          have HR : Hid (Two64 w wr (fun i => if i < k then sched B i else 0)) := hR
          clear hR
          go_wp2_with fail
          refine (turned_any _ x15 7 l15 (by omega) (by omega)).mono ?_
          rintro _ wq ⟨rfl, hq⟩
          replace HR := two64_drew HR hq
          clear hq
          go_wp2_with fail
          refine (turned_any _ x15 18 l15 (by omega) (by omega)).mono ?_
          rintro _ wq2 ⟨rfl, hq⟩
          replace HR := two64_drew HR hq
          clear hq
          go_wp2_with fail
          refine (turned_any _ x2 17 l2 (by omega) (by omega)).mono ?_
          rintro _ wq3 ⟨rfl, hq⟩
          replace HR := two64_drew HR hq
          clear hq
          go_wp2_with fail
          refine (turned_any _ x2 19 l2 (by omega) (by omega)).mono ?_
          rintro _ wp ⟨rfl, hq⟩
          replace HR := two64_drew HR hq
          clear hq
          go_wp2_with fail
          have c7' : wp.cell? ⟨w.heap.size + 1, k - 7, none⟩ = some (.int .u32 x7) := by
            have e := HR.out.row.cell (i := k - 7) (by omega)
            rw [if_pos (by omega), ← H7.out.1] at e
            exact e
          have c16' : wp.cell? ⟨w.heap.size + 1, k - 16, none⟩ = some (.int .u32 x16) := by
            have e := HR.out.row.cell (i := k - 16) (by omega)
            rw [if_pos (by omega), ← H7.out.2] at e
            exact e
          clear c2 c7 c15 c16 fz cc
          have fz := HR.out.row.frozen k
          have cc := HR.out.row.cell (i := k) (by omega)
          simp only [Nat.lt_irrefl, if_false] at cc
          rw [s0_spelt l15, s1_spelt l2]
          have m0 := s0_lt l15
          have m1 := s1_lt l2
          obtain ⟨y0, hy0⟩ : ∃ y, y = s0 x15 := ⟨_, rfl⟩
          obtain ⟨y1, hy1⟩ : ∃ y, y = s1 x2 := ⟨_, rfl⟩
          rw [← hy0] at m0 ⊢
          rw [← hy1] at m1 ⊢
          have Hy : Hid (y0 = s0 x15 ∧ y1 = s1 x2) := ⟨hy0, hy1⟩
          clear hy0 hy1
          go_wp2
          go_region
          go_wp2
          have V : ((y1 : Int) + (x7 : Int) + (y0 : Int) + (x16 : Int)) % 4294967296 = ((sched B k : Nat) : Int) := by
            rw [HE.out, Hy.out.1, Hy.out.2]
            simp only [wnew, M]
            omega
          rw [V]
          clear cc fz c7' c16'
          go_roundg (64 - (k + 1))
          case measure => omega
          case rel =>
            refine ⟨k + 1, by omega, by omega, rfl, by go_num, ((HR.out.set k (sched B k)).drew).congr (fun i _ => ?_)⟩
            by_cases e : i = k
            · subst e
              rw [if_pos rfl, if_pos (by omega)]
            · rw [if_neg e]
              by_cases e2 : i < k
              · rw [if_pos e2, if_pos (by omega)]
              · rw [if_neg e2, if_neg (by omega)]
        · have : k = 64 := by omega
          subst this
          obtain ⟨cs, hg, hsz, hcs⟩ := hR.row
          obtain ⟨os, og, osz, _⟩ := hR.out
          have hi : (Tryz.prog.info? 177).map (·.size) = some cs.size := by rw [hsz]; exact info62
          have h1 : cs.all (·.oneCell') = true := all_one (fun i hi => ⟨_, _, hcs i (by omega)⟩)
          have HR : Hid (Two64 w wr (fun i => if i < 64 then sched B i else 0)) := hR
          clear hR
          go_wp2_with (first
            | refine wpList_load_row rfl 177 (.tmp 3) rfl (w.heap.size + 1) rfl 177 cs (0, 0) _ hg Tryz.underlying177 rfl hi ?_
            | refine wpList_store_row rfl 177 (.tmp 2) (.tmp 92) rfl w.heap.size cs rfl rfl 177 os og hi (by omega) h1 ?_)
          refine bodyPost_ret (v := .agg cs) ?_ rfl ?_
          · exact results_cell_row rfl _ _ w.heap.size 177 cs (0, 0) _ rfl (setRow_heap _ _ _ _ _ _ og) Tryz.underlying177 rfl hi
          refine ⟨⟨cs, rfl, hsz, fun i hi => by rw [hcs i hi, if_pos hi]⟩, below_setRow HR.out.below (Nat.le_refl _) _⟩
end Go.Proofs.YtepeolbbplodfaaGreatDoor.Dg
