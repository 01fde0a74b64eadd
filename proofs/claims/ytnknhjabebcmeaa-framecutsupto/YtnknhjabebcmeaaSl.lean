/-
  Lists of lists and lists of numbers, wherever they lie; cairnlaw09.same, sameInts.
-/
import Derived.Test.YtnknhjabebcmeaaGl
import Derived.Test.YtnknhjabebcmeaaPrt
namespace Go.Proofs.Ytnknhjabebcmeaa
open Go.RowKit

theorem vw_row {w : World} {g : Nat} {s : List Nat} {fr : Nat × Nat} (h : w.heap[g]? = some (.cells (bv s).toArray 5 fr)) (hs : ∀ x ∈ s, x < 256) (hl : s.length ≤ 1048576) : Vw w (some ⟨g, 0, none⟩) g 0 s :=
  ⟨fun _ => rfl, fun i hi => by
    rw [Nat.zero_add, cell_of_row _ _ _ _ 5 _ h]
    simpa using bv_at hi, fun i _ => by have := gd_lt hs i; omega, by omega⟩
theorem vb_row {w : World} {g : Nat} {s : List Nat} {fr : Nat × Nat} (h : w.heap[g]? = some (.cells (bv s).toArray 5 fr)) (hs : ∀ x ∈ s, x < 256) (hl : s.length ≤ 1048576) : Vb w (.slice (some ⟨g, 0, none⟩) s.length s.length) s :=
  ⟨_, _, _, _, rfl, vw_row h hs hl, Nat.le_refl _, (fun h => by cases h), by omega⟩
theorem same_vb {w : World} {v u : Value} {s t : List Nat} (h : Vb w v s) (h' : Vb w u t) :
    Calls Try.prog 10 #[v, u] w fun e w' => e = .returned (.bool (decide (s = t))) ∧ ∃ q, w' = w.drewN q := by
  obtain ⟨a, b, off, c, rfl, hv, hc, _⟩ := h
  obtain ⟨a', b', off', c', rfl, hv', hc', _⟩ := h'
  exact rsame_any w a a' b off c b' off' c' s t hv hv'
/-- two that are the same -/
theorem same_yes {w : World} {v u : Value} {s t : List Nat} (h : Vb w v s) (h' : Vb w u t) (e : s = t) :
    Calls Try.prog 10 #[v, u] w fun e w' => e = .returned (.bool true) ∧ Below w.heap.size w w' := by
  have := same_vb h h'
  rw [decide_eq_true e] at this
  refine this.mono ?_
  rintro e w' ⟨rfl, q, rfl⟩
  exact ⟨rfl, below_drewN (Below.refl _ _) q⟩

/-- THE VALUE v IS A LIST OF THE LISTS L. -/
def Lv (w : World) (v : Value) (L : List (List Nat)) : Prop :=
  ∃ (a : Option Addr) (b off c : Nat) (Us : List Value), v = .slice a L.length c ∧ Us.length = L.length ∧ (0 < L.length → a = some ⟨b, off, none⟩) ∧ (∀ (i : Nat) (u : Value), Us[i]? = some u → w.cell? ⟨b, off + i, none⟩ = some u) ∧ (∀ (i : Nat) (u : Value) (s : List Nat), Us[i]? = some u → L[i]? = some s → Vb w u s) ∧ L.length ≤ c ∧ L.length ≤ 1099511627776
theorem Lv.keep {w w' : World} {v : Value} {L : List (List Nat)} (h : Lv w v L) (k : Below w.heap.size w w') : Lv w' v L := by
  obtain ⟨a, b, off, c, Us, e, h1, h2, h3, h4, h5, h6⟩ := h
  exact ⟨a, b, off, c, Us, e, h1, h2, fun i u hu => (k.cell (p := ⟨b, off + i, none⟩) (World.block_lt_of_cell? _ _ (h3 i u hu))).trans (h3 i u hu), fun i u s hu hs => (h4 i u s hu hs).keep k, h5, h6⟩
theorem Gl.lv {w : World} {B : Nat} {v : Value} {Us : List Value} {L : List (List Nat)} (h : Gl w B v Us L) (hl : L.length ≤ 1099511627776) : Lv w v L := by
  have hu : ∀ (i : Nat) (u : Value) (s : List Nat), Us[i]? = some u → L[i]? = some s → Vb w u s := fun i u s hu hs => by
    obtain ⟨u', h1, h2⟩ := h.vb i s hs
    rw [hu] at h1
    have := Option.some.inj h1
    subst this
    exact h2
  rcases h.own.2 with ⟨rfl, h0⟩ | ⟨g, cap, cur, rfl, hB, hg, h1, h2, h3, h4⟩
  · exact ⟨none, 0, 0, 0, Us, by rw [h0], h.len, fun k => by omega, fun i u hi => by have := h.len; have := (List.getElem?_eq_some_iff.1 hi).1; omega, hu, by omega, hl⟩
  · refine ⟨_, g, 0, cap, Us, rfl, h.len, fun _ => rfl, fun i u hi => ?_, hu, h1, hl⟩
    have := h.own.cells (g := g) rfl i u hi
    rw [add_flat] at this
    rw [Nat.zero_add]
    exact this
/-- THE VALUE v IS A LIST OF THE NUMBERS N. -/
def Iv (w : World) (v : Value) (N : List Nat) : Prop :=
  ∃ (a : Option Addr) (b off c : Nat), v = .slice a N.length c ∧ (0 < N.length → a = some ⟨b, off, none⟩) ∧ (∀ i, i < N.length → w.cell? ⟨b, off + i, none⟩ = some (.int .i64 ((gd N i : Nat) : Int))) ∧ N.length ≤ c ∧ N.length ≤ 1099511627776
theorem Iv.keep {w w' : World} {v : Value} {N : List Nat} (h : Iv w v N) (k : Below w.heap.size w w') : Iv w' v N := by
  obtain ⟨a, b, off, c, e, h1, h2, h3, h4⟩ := h
  exact ⟨a, b, off, c, e, h1, fun i hi => (k.cell (p := ⟨b, off + i, none⟩) (World.block_lt_of_cell? _ _ (h2 i hi))).trans (h2 i hi), h3, h4⟩
theorem gi_iv {w : World} {B : Nat} {v : Value} {N : List Nat} (h : Gi w B v N) (hl : N.length ≤ 1099511627776) : Iv w v N := by
  rcases h.2 with ⟨rfl, h0⟩ | ⟨g, cap, cur, rfl, hB, hg, h1, h2, h3, h4⟩
  · exact ⟨none, 0, 0, 0, by rw [h0], fun k => by omega, fun i hi => by omega, by omega, hl⟩
  · refine ⟨_, g, 0, cap, rfl, fun _ => rfl, fun i hi => ?_, h1, hl⟩
    have := World.ownsRow.cells h (g := g) rfl i _ (iv_at hi)
    rw [add_flat] at this
    rw [Nat.zero_add]
    exact this

set_option maxRecDepth 100000 in
set_option maxHeartbeats 1600000 in
theorem sameL_yes {w : World} {v u : Value} {L : List (List Nat)} (h : Lv w v L) (h' : Lv w u L) :
    Calls Try.prog 8 #[v, u] w fun e w' => e = .returned (.bool true) ∧ Below w.heap.size w w' := by
  obtain ⟨a, b, off, c, Us, rfl, q1, q2, q3, q4, q5, q6⟩ := h
  obtain ⟨a', b', off', c', Us', rfl, r1, r2, r3, r4, r5, r6⟩ := h'
  have HQ : Hid ((0 < L.length → a = some ⟨b, off, none⟩) ∧ (0 < L.length → a' = some ⟨b', off', none⟩) ∧ ∀ i, i < L.length → ∃ x y, w.cell? ⟨b, off + i, none⟩ = some x ∧ w.cell? ⟨b', off' + i, none⟩ = some y ∧ (∃ a n c, x = .slice a n c) ∧ (∃ a n c, y = .slice a n c) ∧ ∀ q, Calls Try.prog 10 #[x, y] (w.drewN q) fun e w' => e = .returned (.bool true) ∧ ∃ q', w' = (w.drewN q).drewN q') := by
    refine ⟨q2, r2, fun i hi => ?_⟩
    have e1 := List.getElem?_eq_getElem (l := Us) (i := i) (by omega)
    have e2 := List.getElem?_eq_getElem (l := Us') (i := i) (by omega)
    have e3 := List.getElem?_eq_getElem (l := L) (i := i) hi
    have v1 := q4 i _ _ e1 e3
    have v2 := r4 i _ _ e2 e3
    refine ⟨_, _, q3 i _ e1, r3 i _ e2, ?_, ?_, fun q => ?_⟩
    · obtain ⟨a, b, off, c, e, _⟩ := v1
      exact ⟨a, _, c, e⟩
    · obtain ⟨a, b, off, c, e, _⟩ := v2
      exact ⟨a, _, c, e⟩
    · have K := same_vb (v1.keep (below_drewN (Below.refl _ _) q)) (v2.keep (below_drewN (Below.refl _ _) q))
      rw [decide_eq_true rfl] at K
      exact K
  clear q1 q2 q3 q4 r1 r2 r3 r4
  obtain ⟨n, en⟩ : ∃ n, n = L.length := ⟨_, rfl⟩
  rw [← en] at HQ q5 q6 r5 r6 ⊢
  clear en
  go_enter Try.func8, Try.ntmps8
  go_wp2_with fail
  go_loopg [5] n (fun g i wr => ∃ (k q : Nat), k ≤ n ∧ g = n - k ∧ i = .int .i64 k ∧ wr = w.drewN q)
  case atStart => exact ⟨0, 0, Nat.zero_le _, rfl, rfl, rfl⟩
  case round =>
    obtain ⟨k, q, hk, rfl, rfl, ewr⟩ := hrel
    by_cases hkn : k < n
    · have i1 : (k : Int) < (n : Int) := by omega
      obtain rfl := HQ.out.1 (by omega)
      obtain rfl := HQ.out.2.1 (by omega)
      obtain ⟨x, y, c1, c2, ⟨xa, xn, xc, ex⟩, ⟨ya, yn, yc, ey⟩, K⟩ := HQ.out.2.2 k hkn
      subst ex
      subst ey
      have d1 : wr.cell? ⟨b, off + k, none⟩ = some (.slice xa xn xc) := by rw [ewr]; simpa using c1
      have d2 : wr.cell? ⟨b', off' + k, none⟩ = some (.slice ya yn yc) := by rw [ewr]; simpa using c2
      have HK : Hid (∀ q', Calls Try.prog 10 #[.slice xa xn xc, .slice ya yn yc] (wr.drewN q') fun e w' => e = .returned (.bool true) ∧ ∃ q'', w' = (wr.drewN q').drewN q'') := fun q' => by
        have := K (q + q')
        rw [ewr]
        simpa using this
      have HW : Hid (wr = w.drewN q) := ewr
      clear K c1 c2 ewr
      go_wp2_with fail
      go_quiet ((go_at_call 10; exact Calls.quiet_of (HK.out _)))
      go_wp2_with fail
      go_roundg (n - (k + 1))
      case measure => omega
      case rel => exact ⟨k + 1, q + nq, by omega, rfl, by go_num, by rw [HW.out]; simp⟩
    · have : k = n := by omega
      subst this
      go_wp2_with fail
      go_ret
      exact ⟨rfl, by first | exact below_drewN (Below.refl _ _) q | (rw [ewr]; exact below_drewN (Below.refl _ _) q)⟩
set_option maxRecDepth 100000 in
set_option maxHeartbeats 1600000 in
theorem sameI_yes {w : World} {v u : Value} {N : List Nat} (h : Iv w v N) (h' : Iv w u N) :
    Calls Try.prog 9 #[v, u] w fun e w' => e = .returned (.bool true) ∧ Below w.heap.size w w' := by
  obtain ⟨a, b, off, c, rfl, q2, q3, q5, q6⟩ := h
  obtain ⟨a', b', off', c', rfl, r2, r3, r5, r6⟩ := h'
  have HQ : Hid ((0 < N.length → a = some ⟨b, off, none⟩) ∧ (0 < N.length → a' = some ⟨b', off', none⟩) ∧ ∀ i, i < N.length → ∃ x : Int, w.cell? ⟨b, off + i, none⟩ = some (.int .i64 x) ∧ w.cell? ⟨b', off' + i, none⟩ = some (.int .i64 x)) := ⟨q2, r2, fun i hi => ⟨_, q3 i hi, r3 i hi⟩⟩
  clear q2 q3 r2 r3
  obtain ⟨n, en⟩ : ∃ n, n = N.length := ⟨_, rfl⟩
  rw [← en] at HQ q5 q6 r5 r6 ⊢
  clear en
  go_enter Try.func9, Try.ntmps9
  go_wp2_with fail
  go_loopg [5] n (fun g i wr => ∃ (k q : Nat), k ≤ n ∧ g = n - k ∧ i = .int .i64 k ∧ wr = w.drewN q)
  case atStart => exact ⟨0, 0, Nat.zero_le _, rfl, rfl, rfl⟩
  case round =>
    obtain ⟨k, q, hk, rfl, rfl, ewr⟩ := hrel
    by_cases hkn : k < n
    · have i1 : (k : Int) < (n : Int) := by omega
      obtain rfl := HQ.out.1 (by omega)
      obtain rfl := HQ.out.2.1 (by omega)
      obtain ⟨x, c1, c2⟩ := HQ.out.2.2 k hkn
      have d1 : wr.cell? ⟨b, off + k, none⟩ = some (.int .i64 x) := by rw [ewr]; simpa using c1
      have d2 : wr.cell? ⟨b', off' + k, none⟩ = some (.int .i64 x) := by rw [ewr]; simpa using c2
      have HW : Hid (wr = w.drewN q) := ewr
      clear c1 c2 ewr
      go_wp2_with fail
      go_quiet (fail)
      go_wp2_with fail
      go_roundg (n - (k + 1))
      case measure => omega
      case rel => exact ⟨k + 1, q + nq, by omega, rfl, by go_num, by rw [HW.out]; simp⟩
    · have : k = n := by omega
      subst this
      go_wp2_with fail
      go_ret
      exact ⟨rfl, by first | exact below_drewN (Below.refl _ _) q | (rw [ewr]; exact below_drewN (Below.refl _ _) q)⟩
end Go.Proofs.Ytnknhjabebcmeaa
