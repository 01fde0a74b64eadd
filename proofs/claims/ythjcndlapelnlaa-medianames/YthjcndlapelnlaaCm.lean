/-
  media.registerMayBe, choicesMayBe.
-/
import Derived.Test.YthjcndlapelnlaaLm
import Derived.Deep.Matrix
namespace Go.Proofs.Ythjcndlapelnlaa
open Go.RowKit

/-- a choice as data -/
structure Cho where
  k : Int
  n : Int
  m : Int
def Cho.cells (c : Cho) : List Value := [.int .i64 c.k, .int .i64 c.n, .int .i64 c.m]
def Cho.ok (c : Cho) : Bool := decide (0 ≤ c.k ∧ c.k < 8 ∧ 0 ≤ c.n ∧ 0 ≤ c.m)
def Cho.in64 (c : Cho) : Prop := (-9223372036854775808 ≤ c.k ∧ c.k ≤ 9223372036854775807) ∧ (-9223372036854775808 ≤ c.n ∧ c.n ≤ 9223372036854775807) ∧ (-9223372036854775808 ≤ c.m ∧ c.m ≤ 9223372036854775807)
/-- THE VALUE v IS A LIST OF THE CHOICES C. -/
def Chs (w : World) (v : Value) (C : List Cho) : Prop :=
  ∃ (a : Option Addr) (b off c : Nat), v = .slice a C.length c ∧ (0 < C.length → a = some ⟨b, off, none⟩) ∧ (∀ (i : Nat) (x : Cho), C[i]? = some x → w.rangeAt b (off + i * 3) x.cells) ∧ C.length ≤ c ∧ (a = none → c = 0) ∧ C.length ≤ 5864062014464
theorem Chs.keep {w w' : World} {v : Value} {C : List Cho} (h : Chs w v C) (k : Below w.heap.size w w') : Chs w' v C := by
  obtain ⟨a, b, off, c, e, h1, h2, r⟩ := h
  exact ⟨a, b, off, c, e, h1, fun i x hx => rng_keep (h2 i x hx) k, r⟩
def chsB (C : List Cho) : Bool := C.all Cho.ok && decide (C.length ≤ 4096)

set_option maxRecDepth 100000 in
set_option maxHeartbeats 1600000 in
theorem choices_any {w : World} {v : Value} {C : List Cho} (h : Chs w v C) :
    Calls Try.prog 27 #[v] w fun e w' => e = .returned (.bool (chsB C)) ∧ Below w.heap.size w w' := by
  obtain ⟨a, b, off, c, rfl, h1, h2, h3, h4, h5⟩ := h
  have HC : Hid ((0 < C.length → a = some ⟨b, off, none⟩) ∧ (∀ (i : Nat) (x : Cho), C[i]? = some x → w.rangeAt b (off + i * 3) x.cells)) := ⟨h1, h2⟩
  obtain ⟨n, en⟩ : ∃ n, n = C.length := ⟨_, rfl⟩
  have HN : Hid (n = C.length) := en
  rw [← en] at HC h3 h5 ⊢
  clear h1 h2 en
  go_enter Try.func27, Try.ntmps27
  go_wp2_with fail
  go_loopg [7] n (fun g i wr => ∃ k : Nat, k ≤ n ∧ g = n - k ∧ i = .int .i64 k ∧ (∀ j x, j < k → C[j]? = some x → x.ok = true) ∧ Below w.heap.size w wr)
  case atStart => exact ⟨0, Nat.zero_le _, rfl, rfl, fun j x hj => absurd hj (by omega), Below.refl _ _⟩
  case round =>
    obtain ⟨k, hk, rfl, rfl, hok, hb⟩ := hrel
    have HO : Hid ((∀ j x, j < k → C[j]? = some x → x.ok = true) ∧ Below w.heap.size w wr) := ⟨hok, hb⟩
    clear hok hb
    by_cases hkn : k < n
    · have i1 : (k : Int) < (n : Int) := by omega
      obtain rfl := HC.out.1 (by omega)
      obtain ⟨x, hx⟩ : ∃ x, C[k]? = some x := ⟨_, List.getElem?_eq_getElem (by have := HN.out; omega)⟩
      have hr := rng_keep (HC.out.2 k x hx) HO.out.2
      have HX : Hid (C[k]? = some x) := hx
      have HR : Hid (wr.rangeAt b (off + k * 3) [.int .i64 x.k, .int .i64 x.n, .int .i64 x.m]) := hr
      have HB : Hid (Below w.heap.size w (wr.alloc (.cells #[.int .i64 x.k, .int .i64 x.n, .int .i64 x.m] 27))) := HO.out.2.alloc HO.out.2.size _
      clear hx hr
      have HOK : Hid (x.ok = decide (0 ≤ x.k ∧ x.k < 8 ∧ 0 ≤ x.n ∧ 0 ≤ x.m)) := rfl
      obtain ⟨xk, xn, xm⟩ := x
      have r0 : wr.cell? ⟨b, off + k * 3, none⟩ = some (.int .i64 xk) := (rng_head HR.out).1
      have r1 : wr.cell? ⟨b, off + k * 3 + 1, none⟩ = some (.int .i64 xn) := (rng_head (rng_head HR.out).2).1
      have r2 : wr.cell? ⟨b, off + k * 3 + 2, none⟩ = some (.int .i64 xm) := (rng_head (rng_head (rng_head HR.out).2).2).1
      simp only at HOK HB HR r0 r1 r2
      by_cases hgood : 0 ≤ xk ∧ xk < 8 ∧ 0 ≤ xn ∧ 0 ≤ xm
      · have HG : Hid ((⟨xk, xn, xm⟩ : Cho).ok = true) := by rw [HOK.out]; exact decide_eq_true hgood
        obtain ⟨g1, g2, g3, g4⟩ := hgood
        go_wp2_with fail
        go_roundg (n - (k + 1))
        case measure => omega
        case rel => exact ⟨k + 1, by omega, rfl, by go_num, fun j x hj hx => by by_cases e : j = k; (subst e; rw [HX.out] at hx; cases hx; exact HG.out); exact HO.out.1 j x (by omega) hx, HB.out⟩
      · have HG : Hid (chsB C = false) := by
          show chsB C = false
          unfold chsB
          have : C.all Cho.ok = false := by
            rw [List.all_eq_false]
            exact ⟨_, List.mem_of_getElem? HX.out, by rw [HOK.out, decide_eq_false hgood]; decide⟩
          rw [this]
          rfl
        have hc : ¬ 0 ≤ xk ∨ (0 ≤ xk ∧ ¬ xk < 8) ∨ (0 ≤ xk ∧ xk < 8 ∧ ¬ 0 ≤ xn) ∨ (0 ≤ xk ∧ xk < 8 ∧ 0 ≤ xn ∧ ¬ 0 ≤ xm) := by omega
        clear hgood
        rcases hc with g1 | ⟨g1, g2⟩ | ⟨g1, g2, g3⟩ | ⟨g1, g2, g3, g4⟩
        all_goals
          go_wp2_with fail
          go_ret
          exact ⟨by rw [HG.out]; rfl, HB.out⟩
    · have i1 : ¬ (k : Int) < (n : Int) := by omega
      have HG : Hid (chsB C = decide ((n : Int) ≤ 4096)) := by
        show chsB C = decide ((n : Int) ≤ 4096)
        unfold chsB
        have : C.all Cho.ok = true := by
          rw [List.all_eq_true]
          intro x hx
          obtain ⟨j, hj, e⟩ := List.getElem_of_mem hx
          exact HO.out.1 j x (by have := HN.out; omega) (by rw [← e]; exact List.getElem?_eq_getElem hj)
        rw [this, Bool.true_and]
        exact decide_eq_decide.2 (by have := HN.out; omega)
      go_wp2_with fail
      go_ret
      exact ⟨by rw [HG.out]; rfl, HO.out.2⟩
end Go.Proofs.Ythjcndlapelnlaa
