import Derived.Test.YtgglbjnfbfpiiaaGreatDoorQRotzz
/-
  The sum, plainly: words are natural numbers below 2^32. No program.
-/
namespace Go.Proofs.YtgglbjnfbfpiiaaGreatDoor.Dg
def M : Nat := 4294967296
/-- the words of a block: B i are its bytes -/
def be (B : Nat → Nat) (t : Nat) : Nat := ((B (4 * t) <<< 24 ||| B (4 * t + 1) <<< 16) ||| B (4 * t + 2) <<< 8) ||| B (4 * t + 3)
def s0 (x : Nat) : Nat := (rot x 7 ^^^ rot x 18) ^^^ (x >>> 3)
def s1 (x : Nat) : Nat := (rot x 17 ^^^ rot x 19) ^^^ (x >>> 10)
def wnew (a b c d : Nat) : Nat := (((s1 a + b) % M + s0 c) % M + d) % M
def sched (B : Nat → Nat) (t : Nat) : Nat :=
  if t < 16 then be B t else wnew (sched B (t - 2)) (sched B (t - 7)) (sched B (t - 15)) (sched B (t - 16))
termination_by t
decreasing_by all_goals omega
structure W8 where
  a : Nat
  b : Nat
  c : Nat
  d : Nat
  e : Nat
  f : Nat
  g : Nat
  h : Nat
def big1 (e : Nat) : Nat := (rot e 6 ^^^ rot e 11) ^^^ rot e 25
def big0 (a : Nat) : Nat := (rot a 2 ^^^ rot a 13) ^^^ rot a 22
def pick (e f g : Nat) : Nat := (e &&& f) ^^^ ((4294967295 ^^^ e) &&& g)
def most (a b c : Nat) : Nat := ((a &&& b) ^^^ (a &&& c)) ^^^ (b &&& c)
def t1 (s : W8) (k w : Nat) : Nat := ((((s.h + big1 s.e) % M + pick s.e s.f s.g) % M + k) % M + w) % M
def t2 (s : W8) : Nat := (big0 s.a + most s.a s.b s.c) % M
def turn1 (s : W8) (k w : Nat) : W8 := ⟨(t1 s k w + t2 s) % M, s.a, s.b, s.c, (s.d + t1 s k w) % M, s.e, s.f, s.g⟩
def turns (K W : Nat → Nat) (s : W8) : Nat → W8
  | 0 => s
  | t + 1 => turn1 (turns K W s t) (K t) (W t)
def plus (s r : W8) : W8 := ⟨(s.a + r.a) % M, (s.b + r.b) % M, (s.c + r.c) % M, (s.d + r.d) % M, (s.e + r.e) % M, (s.f + r.f) % M, (s.g + r.g) % M, (s.h + r.h) % M⟩
def KL : List Nat := [1116352408, 1899447441, 3049323471, 3921009573, 961987163, 1508970993, 2453635748, 2870763221, 3624381080, 310598401, 607225278, 1426881987, 1925078388, 2162078206, 2614888103, 3248222580, 3835390401, 4022224774, 264347078, 604807628, 770255983, 1249150122, 1555081692, 1996064986, 2554220882, 2821834349, 2952996808, 3210313671, 3336571891, 3584528711, 113926993, 338241895, 666307205, 773529912, 1294757372, 1396182291, 1695183700, 1986661051, 2177026350, 2456956037, 2730485921, 2820302411, 3259730800, 3345764771, 3516065817, 3600352804, 4094571909, 275423344, 430227734, 506948616, 659060556, 883997877, 958139571, 1322822218, 1537002063, 1747873779, 1955562222, 2024104815, 2227730452, 2361852424, 2428436474, 2756734187, 3204031479, 3329325298]
def K (t : Nat) : Nat := KL.getD t 0
def fold1 (s : W8) (B : Nat → Nat) : W8 := plus s (turns K (sched B) s 64)
def H0 : W8 := ⟨1779033703, 3144134277, 1013904242, 2773480762, 1359893119, 2600822924, 528734635, 1541459225⟩
structure Ok8 (s : W8) : Prop where
  a : s.a < 4294967296
  b : s.b < 4294967296
  c : s.c < 4294967296
  d : s.d < 4294967296
  e : s.e < 4294967296
  f : s.f < 4294967296
  g : s.g < 4294967296
  h : s.h < 4294967296
theorem turn1_ok {s : W8} (h : Ok8 s) (k w : Nat) : Ok8 (turn1 s k w) :=
  ⟨Nat.mod_lt _ (by decide), h.a, h.b, h.c, Nat.mod_lt _ (by decide), h.e, h.f, h.g⟩
theorem turns_ok {s : W8} (h : Ok8 s) (K W : Nat → Nat) : ∀ t, Ok8 (turns K W s t)
  | 0 => h
  | t + 1 => turn1_ok (turns_ok h K W t) _ _
theorem plus_ok (s r : W8) : Ok8 (plus s r) :=
  ⟨Nat.mod_lt _ (by decide), Nat.mod_lt _ (by decide), Nat.mod_lt _ (by decide), Nat.mod_lt _ (by decide), Nat.mod_lt _ (by decide), Nat.mod_lt _ (by decide), Nat.mod_lt _ (by decide), Nat.mod_lt _ (by decide)⟩
theorem fold1_ok (s : W8) (B : Nat → Nat) : Ok8 (fold1 s B) := plus_ok _ _
theorem H0_ok : Ok8 H0 := ⟨by decide, by decide, by decide, by decide, by decide, by decide, by decide, by decide⟩
theorem K_lt (t : Nat) (h : t < 64) : K t < 4294967296 := by
  have : ∀ t, t < 64 → K t < 4294967296 := by decide
  exact this t h
theorem be_lt {B : Nat → Nat} (hB : ∀ i, B i < 256) (t : Nat) : be B t < 4294967296 := by
  unfold be
  have sh : ∀ x n : Nat, x < 256 → n ≤ 24 → x <<< n < 2 ^ 32 := by
    intro x n hx hn
    rw [Nat.shiftLeft_eq]
    calc x * 2 ^ n < 2 ^ 8 * 2 ^ n := Nat.mul_lt_mul_of_pos_right (by simpa using hx) (Nat.two_pow_pos n)
      _ = 2 ^ (8 + n) := by rw [Nat.pow_add]
      _ ≤ 2 ^ 32 := Nat.pow_le_pow_right (by decide) (by omega)
  have e : (4294967296 : Nat) = 2 ^ 32 := by decide
  rw [e]
  refine Nat.or_lt_two_pow (Nat.or_lt_two_pow (Nat.or_lt_two_pow (sh _ _ (hB _) (by decide)) (sh _ _ (hB _) (by decide))) (sh _ _ (hB _) (by decide))) ?_
  exact Nat.lt_of_lt_of_le (hB _) (by decide)
theorem sched_lt {B : Nat → Nat} (hB : ∀ i, B i < 256) (t : Nat) : sched B t < 4294967296 := by
  unfold sched
  split
  · exact be_lt hB t
  · exact Nat.mod_lt _ (by decide)
theorem sched_low (B : Nat → Nat) {t : Nat} (h : t < 16) : sched B t = be B t := by
  rw [sched, if_pos h]
theorem sched_high (B : Nat → Nat) {t : Nat} (h : 16 ≤ t) : sched B t = wnew (sched B (t - 2)) (sched B (t - 7)) (sched B (t - 15)) (sched B (t - 16)) := by
  rw [sched, if_neg (by omega)]
theorem be_congr {B C : Nat → Nat} (h : ∀ i, i < 64 → B i = C i) {t : Nat} (ht : t < 16) : be B t = be C t := by
  unfold be
  rw [h _ (by omega), h _ (by omega), h _ (by omega), h _ (by omega)]
theorem sched_congr {B C : Nat → Nat} (h : ∀ i, i < 64 → B i = C i) (t : Nat) : sched B t = sched C t := by
  induction t using Nat.strongRecOn with
  | _ t ih =>
    by_cases ht : t < 16
    · rw [sched_low B ht, sched_low C ht, be_congr h ht]
    · rw [sched_high B (by omega), sched_high C (by omega), ih _ (by omega), ih _ (by omega), ih _ (by omega), ih _ (by omega)]
theorem fold1_congr {B C : Nat → Nat} (h : ∀ i, i < 64 → B i = C i) (s : W8) : fold1 s B = fold1 s C := by
  unfold fold1
  rw [show sched B = sched C from funext (sched_congr h)]
end Go.Proofs.YtgglbjnfbfpiiaaGreatDoor.Dg
