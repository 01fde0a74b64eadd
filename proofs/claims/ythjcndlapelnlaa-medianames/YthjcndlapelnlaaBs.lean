/-
  slices.BinarySearchFunc of stays.
-/
import Derived.Test.YthjcndlapelnlaaSm
namespace Go.Proofs.Ythjcndlapelnlaa
open Go.RowKit

/-- THE VALUE v IS A LIST OF THE STAYS S. -/
def Sts (w : World) (v : Value) (S : List Sty) : Prop :=
  ∃ (a : Option Addr) (b off c : Nat), v = .slice a S.length c ∧ (0 < S.length → a = some ⟨b, off, none⟩) ∧ (∀ (i : Nat) (x : Sty), S[i]? = some x → ∃ d, w.rangeAt b (off + i * 3) (stc x.since d x.there) ∧ Vb w d x.data) ∧ S.length ≤ c ∧ S.length ≤ 1099511627776
theorem Sts.keep {w w' : World} {v : Value} {S : List Sty} (h : Sts w v S) (k : Below w.heap.size w w') : Sts w' v S := by
  obtain ⟨a, b, off, c, e, h1, h2, r⟩ := h
  exact ⟨a, b, off, c, e, h1, fun i x hx => by
    obtain ⟨d, q1, q2⟩ := h2 i x hx
    exact ⟨d, rng_keep q1 k, q2.keep k⟩, r⟩
/-- times that rise, all small -/
def Up (S : List Sty) : Prop := (∀ (i j : Nat) (x y : Sty), i ≤ j → S[i]? = some x → S[j]? = some y → x.since ≤ y.since) ∧ ∀ x ∈ S, 0 ≤ x.since ∧ x.since ≤ 1099511627776
/-- how many began ahead of u -/
def ahd (S : List Sty) (u : Int) : Nat := S.countP (fun x => decide (x.since < u))
theorem ahd_le (S : List Sty) (u : Int) : ahd S u ≤ S.length := List.countP_le_length
theorem ahd_eq {S : List Sty} {u : Int} {k : Nat} (hk : k ≤ S.length) (h1 : ∀ (i : Nat) (x : Sty), i < k → S[i]? = some x → x.since < u) (h2 : ∀ (i : Nat) (x : Sty), k ≤ i → S[i]? = some x → ¬ x.since < u) : ahd S u = k := by
  unfold ahd
  have e : S = S.take k ++ S.drop k := (List.take_append_drop k S).symm
  rw [e, List.countP_append]
  have a1 : (S.take k).countP (fun x => decide (x.since < u)) = (S.take k).length := by
    rw [List.countP_eq_length]
    intro x hx
    obtain ⟨i, hi, e⟩ := List.getElem_of_mem hx
    rw [List.length_take] at hi
    have := h1 i x (by omega) (by rw [← e, List.getElem_take]; exact List.getElem?_eq_getElem (by omega))
    exact decide_eq_true this
  have a2 : (S.drop k).countP (fun x => decide (x.since < u)) = 0 := by
    rw [List.countP_eq_zero]
    intro x hx
    obtain ⟨i, hi, e⟩ := List.getElem_of_mem hx
    rw [List.length_drop] at hi
    have := h2 (k + i) x (by omega) (by rw [← e, List.getElem_drop]; exact List.getElem?_eq_getElem (by omega))
    simpa using this
  rw [a1, a2, List.length_take]
  omega
set_option maxRecDepth 100000 in
set_option maxHeartbeats 1600000 in
theorem bsearch_any {w : World} {v : Value} {S : List Sty} (h : Sts w v S) (hu : Up S) (u : Int) (hu0 : 0 ≤ u) (hu1 : u ≤ 1099511627776) :
    Calls Try.prog 81 #[v, .int .i64 u, (.func (.func 82) #[] #[])] w fun e w' => (∃ v : Value, e = .returned (.tuple #[.int .i64 ((ahd S u : Nat) : Int), v])) ∧ Below w.heap.size w w' := by
  obtain ⟨a, b, off, c, rfl, h1, h2, h3, h4⟩ := h
  have HC : Hid ((0 < S.length → a = some ⟨b, off, none⟩) ∧ ∀ i, i < S.length → ∃ t bb d, S[i]? = some ⟨t, d, bb⟩ ∧ (0 ≤ t ∧ t ≤ 1099511627776) ∧ ∃ dv, w.rangeAt b (off + i * 3) [.int .i64 t, dv, .bool bb]) := by
    refine ⟨h1, fun i hi => ?_⟩
    obtain ⟨⟨t, d, bb⟩, hx⟩ : ∃ x, S[i]? = some x := ⟨_, List.getElem?_eq_getElem hi⟩
    obtain ⟨dv, q1, _⟩ := h2 i _ hx
    exact ⟨t, bb, d, hx, hu.2 _ (List.mem_of_getElem? hx), dv, q1⟩
  have HU : Hid (Up S) := hu
  obtain ⟨n, en⟩ : ∃ n, n = S.length := ⟨_, rfl⟩
  have HN : Hid (n = S.length) := en
  rw [← en] at HC h3 h4 ⊢
  clear h1 h2 hu en
  go_enter Try.func81, Try.ntmps81
  go_wp2_with fail
  go_loopg [9, 10] n (fun g ii jj wr => ∃ i j : Nat, i ≤ j ∧ j ≤ n ∧ g = j - i ∧ ii = .int .i64 i ∧ jj = .int .i64 j ∧ (∀ (k : Nat) (x : Sty), k < i → S[k]? = some x → x.since < u) ∧ (∀ (k : Nat) (x : Sty), j ≤ k → S[k]? = some x → ¬ x.since < u) ∧ Below w.heap.size w wr)
  case atStart => exact ⟨0, n, Nat.zero_le _, Nat.le_refl _, rfl, rfl, rfl, fun k x hk => absurd hk (by omega), fun k x hk hx => absurd (List.getElem?_eq_some_iff.1 hx).1 (by have := HN.out; omega), Below.refl _ _⟩
  case round =>
    obtain ⟨i, j, hij, hjn, rfl, rfl, rfl, hlo, hhi, hb⟩ := hrel
    have HO : Hid ((∀ (k : Nat) (x : Sty), k < i → S[k]? = some x → x.since < u) ∧ (∀ (k : Nat) (x : Sty), j ≤ k → S[k]? = some x → ¬ x.since < u) ∧ Below w.heap.size w wr) := ⟨hlo, hhi, hb⟩
    clear hlo hhi hb
    by_cases hlt : i < j
    · have i1 : (i : Int) < (j : Int) := by omega
      obtain rfl := HC.out.1 (by omega)
      obtain ⟨m, hm⟩ : ∃ m : Nat, m = (i + j) / 2 := ⟨_, rfl⟩
      have hm1 : i ≤ m := by omega
      have hm2 : m < j := by omega
      have e1 : ((i : Int) + (j : Int)) / 2 = (m : Int) := by omega
      obtain ⟨t, bb, d, hx, ⟨ht0, ht1⟩, dv, hr⟩ := HC.out.2 m (by omega)
      have HX : Hid (S[m]? = some ⟨t, d, bb⟩ ∧ wr.rangeAt b (off + m * 3) [.int .i64 t, dv, .bool bb]) := ⟨hx, rng_keep hr HO.out.2.2⟩
      have i2 : (m : Int) < (n : Int) := by omega
      have i3 : (0 : Int) ≤ (m : Int) := by omega
      have r0 : wr.cell? ⟨b, off + m * 3, none⟩ = some (.int .i64 t) := (rng_head HX.out.2).1
      have r1 : wr.cell? ⟨b, off + m * 3 + 1, none⟩ = some dv := (rng_head (rng_head HX.out.2).2).1
      have r2 : wr.cell? ⟨b, off + m * 3 + 2, none⟩ = some (.bool bb) := (rng_head (rng_head (rng_head HX.out.2).2).2).1
      clear hm hx hr
      go_wp2_with fail
      refine (under1_any wr t dv bb u (by omega) (by omega) (by omega) (by omega)).mono ?_
      rintro e w1 ⟨rfl, b1⟩
      have HB1 : Hid (Below w.heap.size w w1) := ch HO.out.2.2 b1
      clear b1 r0 r1 r2
      by_cases htu : t < u
      · have i4 : t - u < 0 := by omega
        have HL : Hid (∀ (k : Nat) (x : Sty), k < m + 1 → S[k]? = some x → x.since < u) := fun k x hk hx => by
          have := HU.out.1 k m x _ (by omega) hx HX.out.1
          simp only at this
          omega
        go_wp2_with fail
        go_roundg (j - (m + 1))
        case measure => omega
        case rel => exact ⟨m + 1, j, by omega, hjn, rfl, by go_num, rfl, HL.out, HO.out.2.1, HB1.out⟩
      · have i4 : ¬ t - u < 0 := by omega
        have HL : Hid (∀ (k : Nat) (x : Sty), m ≤ k → S[k]? = some x → ¬ x.since < u) := fun k x hk hx => by
          have := HU.out.1 m k _ x hk HX.out.1 hx
          simp only at this
          omega
        go_wp2_with fail
        go_roundg (m - i)
        case measure => omega
        case rel => exact ⟨i, m, hm1, by omega, rfl, rfl, rfl, HO.out.1, HL.out, HB1.out⟩
    · have i1 : ¬ (i : Int) < (j : Int) := by omega
      have eij : i = j := by omega
      have HA : Hid (ahd S u = i) := ahd_eq (by have := HN.out; omega) HO.out.1 (by rw [eij]; exact HO.out.2.1)
      clear eij
      by_cases hin : i < n
      · have i2 : (i : Int) < (n : Int) := by omega
        have i3 : (0 : Int) ≤ (i : Int) := by omega
        obtain rfl := HC.out.1 (by omega)
        obtain ⟨t, bb, d, hx, ⟨ht0, ht1⟩, dv, hr⟩ := HC.out.2 i hin
        have HX : Hid (wr.rangeAt b (off + i * 3) [.int .i64 t, dv, .bool bb]) := rng_keep hr HO.out.2.2
        have r0 : wr.cell? ⟨b, off + i * 3, none⟩ = some (.int .i64 t) := (rng_head HX.out).1
        have r1 : wr.cell? ⟨b, off + i * 3 + 1, none⟩ = some dv := (rng_head (rng_head HX.out).2).1
        have r2 : wr.cell? ⟨b, off + i * 3 + 2, none⟩ = some (.bool bb) := (rng_head (rng_head (rng_head HX.out).2).2).1
        clear hx hr
        go_wp2_with fail
        refine (under1_any wr t dv bb u (by omega) (by omega) (by omega) (by omega)).mono ?_
        rintro e w1 ⟨rfl, b1⟩
        have HB1 : Hid (Below w.heap.size w w1) := ch HO.out.2.2 b1
        clear b1 r0 r1 r2
        go_wp2_with fail
        go_ret2
        exact ⟨by rw [HA.out]; exact ⟨_, rfl⟩, HB1.out⟩
      · have i2 : ¬ (i : Int) < (n : Int) := by omega
        go_wp2_with fail
        go_ret2
        exact ⟨by rw [HA.out]; exact ⟨_, rfl⟩, HO.out.2.2⟩
end Go.Proofs.Ythjcndlapelnlaa
