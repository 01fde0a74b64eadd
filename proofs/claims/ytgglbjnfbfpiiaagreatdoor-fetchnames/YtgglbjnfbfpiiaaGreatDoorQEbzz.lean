import Derived.Test.YtgglbjnfbfpiiaaGreatDoorQShazz
/-
  A block taken into the words, reckoned by the kernel.
-/
namespace Go.Proofs.YtgglbjnfbfpiiaaGreatDoor.Dg
/-- n is reckoned first -/
def now {α : Type} (n : Nat) (k : Nat → α) : α := match n with | 0 => k 0 | m + 1 => k (m + 1)
theorem now_eq {α : Type} (n : Nat) (k : Nat → α) : now n k = k n := by cases n <;> rfl
/-- a round: the words, the next sixteen of the schedule -/
def eround (k a b c d e f g h w : Nat) {α : Type} (r : Nat → Nat → α) : α :=
  now (((((h + big1 e) % M + pick e f g) % M + k) % M + w) % M) fun x => now ((x + (big0 a + most a b c) % M) % M) fun a' => now ((d + x) % M) fun e' => r a' e'
/-- the rest of the rounds: W holds the next sixteen words -/
def erounds : List Nat → List Nat → Nat → Nat → Nat → Nat → Nat → Nat → Nat → Nat → W8
  | k :: ks, w0 :: w1 :: w2 :: w3 :: w4 :: w5 :: w6 :: w7 :: w8 :: w9 :: w10 :: w11 :: w12 :: w13 :: w14 :: w15 :: r, a, b, c, d, e, f, g, h =>
    now (wnew w14 w9 w1 w0) fun w16 =>
      eround k a b c d e f g h w0 fun a' e' => erounds ks (w1 :: w2 :: w3 :: w4 :: w5 :: w6 :: w7 :: w8 :: w9 :: w10 :: w11 :: w12 :: w13 :: w14 :: w15 :: w16 :: r) a' a b c e' e f g
  | _, _, a, b, c, d, e, f, g, h => ⟨a, b, c, d, e, f, g, h⟩
theorem erounds_step (k : Nat) (ks : List Nat) (w0 w1 w2 w3 w4 w5 w6 w7 w8 w9 w10 w11 w12 w13 w14 w15 : Nat) (s : W8) :
    erounds (k :: ks) [w0, w1, w2, w3, w4, w5, w6, w7, w8, w9, w10, w11, w12, w13, w14, w15] s.a s.b s.c s.d s.e s.f s.g s.h =
      erounds ks [w1, w2, w3, w4, w5, w6, w7, w8, w9, w10, w11, w12, w13, w14, w15, wnew w14 w9 w1 w0] (turn1 s k w0).a (turn1 s k w0).b (turn1 s k w0).c (turn1 s k w0).d (turn1 s k w0).e (turn1 s k w0).f (turn1 s k w0).g (turn1 s k w0).h := by
  rw [erounds, now_eq]
  unfold eround
  rw [now_eq, now_eq, now_eq]
  rfl
/-- the sixteen words from t on -/
def win (B : Nat → Nat) (t : Nat) : List Nat := [sched B t, sched B (t + 1), sched B (t + 2), sched B (t + 3), sched B (t + 4), sched B (t + 5), sched B (t + 6), sched B (t + 7), sched B (t + 8), sched B (t + 9), sched B (t + 10), sched B (t + 11), sched B (t + 12), sched B (t + 13), sched B (t + 14), sched B (t + 15)]
theorem erounds_turns (B : Nat → Nat) (s : W8) : ∀ (ks : List Nat) (t : Nat), (∀ i, i < ks.length → ks[i]? = some (K (t + i))) →
    erounds ks (win B t) (turns K (sched B) s t).a (turns K (sched B) s t).b (turns K (sched B) s t).c (turns K (sched B) s t).d (turns K (sched B) s t).e (turns K (sched B) s t).f (turns K (sched B) s t).g (turns K (sched B) s t).h = turns K (sched B) s (t + ks.length)
  | [], t, _ => by
    rw [erounds]
    · rfl
    · intro k ks' w0 w1 w2 w3 w4 w5 w6 w7 w8 w9 w10 w11 w12 w13 w14 w15 r h
      cases h
  | k :: ks, t, h => by
    have hk : k = K t := by
      have := h 0 (by simp)
      simpa using this
    unfold win
    rw [erounds_step]
    have e : wnew (sched B (t + 14)) (sched B (t + 9)) (sched B (t + 1)) (sched B t) = sched B (t + 16) := by
      rw [sched_high B (t := t + 16) (by omega)]
      rfl
    rw [e, hk]
    have ih := erounds_turns B s ks (t + 1) (fun i hi => by
      have := h (i + 1) (by simp; omega)
      rw [List.getElem?_cons_succ] at this
      rw [this, show t + (i + 1) = t + 1 + i by omega])
    have e2 : t + 1 + ks.length = t + (k :: ks).length := by simp; omega
    rw [e2] at ih
    rw [hk] at ih
    exact ih
def ewords : List Nat → List Nat
  | x0 :: x1 :: x2 :: x3 :: r => now (((x0 <<< 24 ||| x1 <<< 16) ||| x2 <<< 8) ||| x3) fun w => w :: ewords r
  | _ => []
/-- one block of bytes, given as a list -/
def eb (s : W8) (l : List Nat) : W8 :=
  match s with
  | ⟨a, b, c, d, e, f, g, h⟩ =>
    match erounds KL (ewords l) a b c d e f g h with
    | ⟨a', b', c', d', e', f', g', h'⟩ =>
      now ((a + a') % M) fun a => now ((b + b') % M) fun b => now ((c + c') % M) fun c => now ((d + d') % M) fun d => now ((e + e') % M) fun e => now ((f + f') % M) fun f => now ((g + g') % M) fun g => now ((h + h') % M) fun h => ⟨a, b, c, d, e, f, g, h⟩
theorem range64 : List.range 64 = [0, 1, 2, 3, 4, 5, 6, 7, 8, 9, 10, 11, 12, 13, 14, 15, 16, 17, 18, 19, 20, 21, 22, 23, 24, 25, 26, 27, 28, 29, 30, 31, 32, 33, 34, 35, 36, 37, 38, 39, 40, 41, 42, 43, 44, 45, 46, 47, 48, 49, 50, 51, 52, 53, 54, 55, 56, 57, 58, 59, 60, 61, 62, 63] := by decide
theorem ewords_win (B : Nat → Nat) : ewords ((List.range 64).map B) = win B 0 := by
  rw [range64]
  simp only [List.map_cons, List.map_nil, ewords, now_eq]
  unfold win
  rw [sched_low B (show 0 < 16 by decide), sched_low B (show 0 + 1 < 16 by decide), sched_low B (show 0 + 2 < 16 by decide), sched_low B (show 0 + 3 < 16 by decide), sched_low B (show 0 + 4 < 16 by decide), sched_low B (show 0 + 5 < 16 by decide), sched_low B (show 0 + 6 < 16 by decide), sched_low B (show 0 + 7 < 16 by decide), sched_low B (show 0 + 8 < 16 by decide), sched_low B (show 0 + 9 < 16 by decide), sched_low B (show 0 + 10 < 16 by decide), sched_low B (show 0 + 11 < 16 by decide), sched_low B (show 0 + 12 < 16 by decide), sched_low B (show 0 + 13 < 16 by decide), sched_low B (show 0 + 14 < 16 by decide), sched_low B (show 0 + 15 < 16 by decide)]
  rfl
theorem KL_get : ∀ i, i < KL.length → KL[i]? = some (K (0 + i)) := by
  intro i hi
  rw [Nat.zero_add, List.getElem?_eq_getElem hi]
  unfold K
  rw [List.getD_eq_getElem?_getD, List.getElem?_eq_getElem hi]
  rfl
theorem eb_eq (s : W8) (B : Nat → Nat) : eb s ((List.range 64).map B) = fold1 s B := by
  have h := erounds_turns B s KL 0 KL_get
  rw [← ewords_win B] at h
  have h2 : erounds KL (ewords ((List.range 64).map B)) s.a s.b s.c s.d s.e s.f s.g s.h = turns K (sched B) s 64 := h
  unfold eb fold1
  rw [← h2]
  cases s
  simp only [now_eq, plus]
end Go.Proofs.YtgglbjnfbfpiiaaGreatDoor.Dg
