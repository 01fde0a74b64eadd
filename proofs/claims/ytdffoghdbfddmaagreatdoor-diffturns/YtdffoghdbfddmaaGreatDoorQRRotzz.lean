import Derived.Test.YtdffoghdbfddmaaGreatDoorChecked
import Derived.WalkKit
import Derived.Deep.OwnRows
import Derived.Deep.LoopGhost
import Derived.Deep.QuietTactic
import Derived.BigQuiet
import Derived.Deep.Light
import Derived.Laws.BytesArg
import Derived.WalkSmall
import Derived.Laws.BitsAllLaws
/-
  How a list of bytes lies in memory, told by the index.
-/
namespace Go.Proofs.YtdffoghdbfddmaaGreatDoor.Dg
open Go.RowKit
theorem Tryz.info5 : (Tryz.prog.info? 5).map (fun i => (i.zero, i.size, i.bytes)) = some (some (.int .u8 0), 1, 1) := by kernel_rfl
/-- THE SLICE VALUE v HOLDS n BYTES, Z i AT PLACE i. -/
structure View (w : World) (a : Option Addr) (b off n : Nat) (Z : Nat → Int) : Prop where
  at_ : 0 < n → a = some ⟨b, off, none⟩
  cell : ∀ i, i < n → w.cell? ⟨b, off + i, none⟩ = some (.int .u8 (Z i))
  bd : ∀ i, i < n → 0 ≤ Z i ∧ Z i ≤ 255
  len : n ≤ 281474976710656
theorem View.lt {w : World} {a : Option Addr} {b off n : Nat} {Z : Nat → Int} (h : View w a b off n Z) (hn : 0 < n) : b < w.heap.size :=
  World.block_lt_of_cell? _ _ (h.cell 0 hn)
theorem View.of_cells {w w' : World} {a : Option Addr} {b off n : Nat} {Z : Nat → Int} (h : View w a b off n Z) (hc : ∀ p : Addr, p.block < w.heap.size → w'.cell? p = w.cell? p) : View w' a b off n Z :=
  ⟨h.at_, fun i hi => (hc _ (h.lt (by omega))).trans (h.cell i hi), h.bd, h.len⟩
theorem View.drewN {w : World} {a : Option Addr} {b off n : Nat} {Z : Nat → Int} (h : View w a b off n Z) (q : Nat) : View (w.drewN q) a b off n Z :=
  h.of_cells fun p _ => by simp
theorem View.below {w w' : World} {a : Option Addr} {b off n : Nat} {Z : Nat → Int} (h : View w a b off n Z) (hb : Below w.heap.size w w') : View w' a b off n Z :=
  h.of_cells fun _ hp => hb.cell hp
theorem View.congr {w : World} {a : Option Addr} {b off n : Nat} {Z Y : Nat → Int} (h : View w a b off n Z) (e : ∀ i, i < n → Z i = Y i) : View w a b off n Y :=
  ⟨h.at_, fun i hi => by rw [← e i hi]; exact h.cell i hi, fun i hi => by rw [← e i hi]; exact h.bd i hi, h.len⟩
end Go.Proofs.YtdffoghdbfddmaaGreatDoor.Dg
/-
  Words turned right: the program's and the reference's way.
-/
namespace Go.Proofs.YtdffoghdbfddmaaGreatDoor.Dg
open Go.RowKit
/-- a word turned right by n bits -/
def rot (x n : Nat) : Nat := (x >>> n) ||| ((x <<< (32 - n)) % 4294967296)
theorem rot_lt {x : Nat} (n : Nat) (hx : x < 4294967296) : rot x n < 4294967296 := by
  unfold rot
  refine Nat.or_lt_two_pow (n := 32) ?_ (Nat.mod_lt _ (by decide))
  rw [Nat.shiftRight_eq_div_pow]
  exact Nat.lt_of_le_of_lt (Nat.div_le_self _ _) hx
theorem turn_or (x n : Nat) (hx : x < 4294967296) : bits .or .u32 ((x : Int) / 2 ^ n) ((x : Int) * 2 ^ (32 - n) % 4294967296) = ((rot x n : Nat) : Int) := by
  have e1 : (x : Int) / 2 ^ n = ((x >>> n : Nat) : Int) := by rw [Nat.shiftRight_eq_div_pow]; simp
  have e2 : (x : Int) * 2 ^ (32 - n) % 4294967296 = (((x <<< (32 - n)) % 4294967296 : Nat) : Int) := by rw [Nat.shiftLeft_eq]; simp
  rw [e1, e2]
  refine u32_or_nat _ _ ?_ (Nat.mod_lt _ (by decide))
  rw [Nat.shiftRight_eq_div_pow]
  exact Nat.lt_of_le_of_lt (Nat.div_le_self _ _) hx
theorem turn_or' (x n : Nat) (hx : x < 4294967296) : bits .or .u32 ((x : Int) * 2 ^ (32 - n) % 4294967296) ((x : Int) / 2 ^ n) = ((rot x n : Nat) : Int) := by
  rw [← turn_or x n hx]
  simp only [bits, BitVec.or_comm]
theorem left_count : ∀ n : Nat, n < 32 → 1 ≤ n → bits .and .u64 (IntKind.u64.wrap (-(n : Int))) 31 = ((32 - n : Nat) : Int) := by decide
set_option maxHeartbeats 400000 in
theorem left_any (w : World) (x : Nat) (n : Nat) (h2 : x < 4294967296) (hn : 1 ≤ n) (hm : n ≤ 31) :
    Calls Tryz.prog 148 #[.int .u32 x, .int .i64 (-(n : Int))] w fun e w' => e = .returned (.int .u32 (rot x n)) ∧ w' = w := by
  have hc := left_count n (by omega) hn
  obtain ⟨m, hm'⟩ : ∃ m, m = 32 - n := ⟨_, rfl⟩
  have h3 : Hid (n = 32 - m) := by show n = 32 - m; omega
  have h5 : m + n ≤ 32 := by omega
  have h6 : 32 ≤ m + n := by omega
  rw [← hm'] at hc
  have h4 : m ≤ 31 := by omega
  clear hm'
  go_enter Tryz.func148, Tryz.ntmps148
  go_wp2
  have e1 := turn_or' x n h2
  rw [show 32 - n = m by omega] at e1
  rw [show 32 - m = n by omega, e1]
  go_ret
  exact ⟨rfl, rfl⟩
set_option maxHeartbeats 400000 in
theorem rotR_any (w : World) (x : Nat) (n : Nat) (h2 : x < 4294967296) (hn : 1 ≤ n) (hm : n ≤ 31) :
    Calls Tryz.prog 138 #[.int .u32 x, .int .i64 (n : Int)] w fun e w' => e = .returned (.int .u32 (rot x n)) ∧ w' = w := by
  have c := left_any w x n h2 hn hm
  go_enter Tryz.func138, Tryz.ntmps138
  go_wp2_with (refine c.mono ?_; rintro _ _ ⟨rfl, rfl⟩)
  go_ret
  exact ⟨rfl, rfl⟩
end Go.Proofs.YtdffoghdbfddmaaGreatDoor.Dg
/-
  The sum, plainly: words are natural numbers below 2^32. No program.
-/
namespace Go.Proofs.YtdffoghdbfddmaaGreatDoor.Dg
def M : Nat := 4294967296
/-- the words of a block: B i are its bytes -/
def be (B : Nat → Nat) (t : Nat) : Nat := ((B (4 * t) <<< 24 ||| B (4 * t + 1) <<< 16) ||| B (4 * t + 2) <<< 8) ||| B (4 * t + 3)
def s0 (x : Nat) : Nat := (rot x 7 ^^^ rot x 18) ^^^ (x >>> 3)
def s1 (x : Nat) : Nat := (rot x 17 ^^^ rot x 19) ^^^ (x >>> 10)
def wnew (a b c d : Nat) : Nat := (((s1 a + b) % M + s0 c) % M + d) % M
def sched (B : Nat → Nat) (t : Nat) : Nat :=
  if t < 16 then be B t else wnew (sched B (t - 2)) (sched B (t - 7)) (sched B (t - 15)) (sched B (t - 16))
termination_by t
decreasing_by all_goals omega
structure W8 where
  a : Nat
  b : Nat
  c : Nat
  d : Nat
  e : Nat
  f : Nat
  g : Nat
  h : Nat
def big1 (e : Nat) : Nat := (rot e 6 ^^^ rot e 11) ^^^ rot e 25
def big0 (a : Nat) : Nat := (rot a 2 ^^^ rot a 13) ^^^ rot a 22
def pick (e f g : Nat) : Nat := (e &&& f) ^^^ ((4294967295 ^^^ e) &&& g)
def most (a b c : Nat) : Nat := ((a &&& b) ^^^ (a &&& c)) ^^^ (b &&& c)
def t1 (s : W8) (k w : Nat) : Nat := ((((s.h + big1 s.e) % M + pick s.e s.f s.g) % M + k) % M + w) % M
def t2 (s : W8) : Nat := (big0 s.a + most s.a s.b s.c) % M
def turn1 (s : W8) (k w : Nat) : W8 := ⟨(t1 s k w + t2 s) % M, s.a, s.b, s.c, (s.d + t1 s k w) % M, s.e, s.f, s.g⟩
def turns (K W : Nat → Nat) (s : W8) : Nat → W8
  | 0 => s
  | t + 1 => turn1 (turns K W s t) (K t) (W t)
def plus (s r : W8) : W8 := ⟨(s.a + r.a) % M, (s.b + r.b) % M, (s.c + r.c) % M, (s.d + r.d) % M, (s.e + r.e) % M, (s.f + r.f) % M, (s.g + r.g) % M, (s.h + r.h) % M⟩
def KL : List Nat := [1116352408, 1899447441, 3049323471, 3921009573, 961987163, 1508970993, 2453635748, 2870763221, 3624381080, 310598401, 607225278, 1426881987, 1925078388, 2162078206, 2614888103, 3248222580, 3835390401, 4022224774, 264347078, 604807628, 770255983, 1249150122, 1555081692, 1996064986, 2554220882, 2821834349, 2952996808, 3210313671, 3336571891, 3584528711, 113926993, 338241895, 666307205, 773529912, 1294757372, 1396182291, 1695183700, 1986661051, 2177026350, 2456956037, 2730485921, 2820302411, 3259730800, 3345764771, 3516065817, 3600352804, 4094571909, 275423344, 430227734, 506948616, 659060556, 883997877, 958139571, 1322822218, 1537002063, 1747873779, 1955562222, 2024104815, 2227730452, 2361852424, 2428436474, 2756734187, 3204031479, 3329325298]
def K (t : Nat) : Nat := KL.getD t 0
def fold1 (s : W8) (B : Nat → Nat) : W8 := plus s (turns K (sched B) s 64)
def H0 : W8 := ⟨1779033703, 3144134277, 1013904242, 2773480762, 1359893119, 2600822924, 528734635, 1541459225⟩
structure Ok8 (s : W8) : Prop where
  a : s.a < 4294967296
  b : s.b < 4294967296
  c : s.c < 4294967296
  d : s.d < 4294967296
  e : s.e < 4294967296
  f : s.f < 4294967296
  g : s.g < 4294967296
  h : s.h < 4294967296
theorem turn1_ok {s : W8} (h : Ok8 s) (k w : Nat) : Ok8 (turn1 s k w) :=
  ⟨Nat.mod_lt _ (by decide), h.a, h.b, h.c, Nat.mod_lt _ (by decide), h.e, h.f, h.g⟩
theorem turns_ok {s : W8} (h : Ok8 s) (K W : Nat → Nat) : ∀ t, Ok8 (turns K W s t)
  | 0 => h
  | t + 1 => turn1_ok (turns_ok h K W t) _ _
theorem plus_ok (s r : W8) : Ok8 (plus s r) :=
  ⟨Nat.mod_lt _ (by decide), Nat.mod_lt _ (by decide), Nat.mod_lt _ (by decide), Nat.mod_lt _ (by decide), Nat.mod_lt _ (by decide), Nat.mod_lt _ (by decide), Nat.mod_lt _ (by decide), Nat.mod_lt _ (by decide)⟩
theorem fold1_ok (s : W8) (B : Nat → Nat) : Ok8 (fold1 s B) := plus_ok _ _
theorem H0_ok : Ok8 H0 := ⟨by decide, by decide, by decide, by decide, by decide, by decide, by decide, by decide⟩
theorem K_lt (t : Nat) (h : t < 64) : K t < 4294967296 := by
  have : ∀ t, t < 64 → K t < 4294967296 := by decide
  exact this t h
theorem be_lt {B : Nat → Nat} (hB : ∀ i, B i < 256) (t : Nat) : be B t < 4294967296 := by
  unfold be
  have sh : ∀ x n : Nat, x < 256 → n ≤ 24 → x <<< n < 2 ^ 32 := by
    intro x n hx hn
    rw [Nat.shiftLeft_eq]
    calc x * 2 ^ n < 2 ^ 8 * 2 ^ n := Nat.mul_lt_mul_of_pos_right (by simpa using hx) (Nat.two_pow_pos n)
      _ = 2 ^ (8 + n) := by rw [Nat.pow_add]
      _ ≤ 2 ^ 32 := Nat.pow_le_pow_right (by decide) (by omega)
  have e : (4294967296 : Nat) = 2 ^ 32 := by decide
  rw [e]
  refine Nat.or_lt_two_pow (Nat.or_lt_two_pow (Nat.or_lt_two_pow (sh _ _ (hB _) (by decide)) (sh _ _ (hB _) (by decide))) (sh _ _ (hB _) (by decide))) ?_
  exact Nat.lt_of_lt_of_le (hB _) (by decide)
theorem sched_lt {B : Nat → Nat} (hB : ∀ i, B i < 256) (t : Nat) : sched B t < 4294967296 := by
  unfold sched
  split
  · exact be_lt hB t
  · exact Nat.mod_lt _ (by decide)
theorem sched_low (B : Nat → Nat) {t : Nat} (h : t < 16) : sched B t = be B t := by
  rw [sched, if_pos h]
theorem sched_high (B : Nat → Nat) {t : Nat} (h : 16 ≤ t) : sched B t = wnew (sched B (t - 2)) (sched B (t - 7)) (sched B (t - 15)) (sched B (t - 16)) := by
  rw [sched, if_neg (by omega)]
theorem be_congr {B C : Nat → Nat} (h : ∀ i, i < 64 → B i = C i) {t : Nat} (ht : t < 16) : be B t = be C t := by
  unfold be
  rw [h _ (by omega), h _ (by omega), h _ (by omega), h _ (by omega)]
theorem sched_congr {B C : Nat → Nat} (h : ∀ i, i < 64 → B i = C i) (t : Nat) : sched B t = sched C t := by
  induction t using Nat.strongRecOn with
  | _ t ih =>
    by_cases ht : t < 16
    · rw [sched_low B ht, sched_low C ht, be_congr h ht]
    · rw [sched_high B (by omega), sched_high C (by omega), ih _ (by omega), ih _ (by omega), ih _ (by omega), ih _ (by omega)]
theorem fold1_congr {B C : Nat → Nat} (h : ∀ i, i < 64 → B i = C i) (s : W8) : fold1 s B = fold1 s C := by
  unfold fold1
  rw [show sched B = sched C from funext (sched_congr h)]
end Go.Proofs.YtdffoghdbfddmaaGreatDoor.Dg
/-
  A word turned right, the reference's way.
-/
namespace Go.Proofs.YtdffoghdbfddmaaGreatDoor.Dg
open Go.RowKit
set_option maxHeartbeats 400000 in
theorem turned_any (w : World) (x : Nat) (n : Nat) (h2 : x < 4294967296) (hn : 1 ≤ n) (hm : n ≤ 31) :
    Calls Tryz.prog 77 #[.int .u32 x, .int .i64 (n : Int)] w fun e w' => e = .returned (.int .u32 (rot x n)) ∧ ∃ q, w' = w.drewN q := by
  go_enter Tryz.func77, Tryz.ntmps77
  go_wp2
  go_quiet (fail)
  go_wp2
  rw [turn_or x n h2]
  go_ret
  exact ⟨rfl, nq, rfl⟩
end Go.Proofs.YtdffoghdbfddmaaGreatDoor.Dg
