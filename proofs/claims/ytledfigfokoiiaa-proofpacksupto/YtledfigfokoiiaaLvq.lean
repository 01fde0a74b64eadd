import Derived.Test.YtledfigfokoiiaaPfq
import Derived.Test.YtledfigfokoiiaaEncq
/-
  Lists of lists, wherever they lie; the law's num and Same.
-/
namespace Go.Proofs.Ytledfigfokoiiaa
open Go.RowKit
theorem below_drewN {B : Nat} {w w' : World} (h : Below B w w') (q : Nat) : Below B w (w'.drewN q) := ⟨h.os, h.tape, h.output, h.size, fun k hk => h.block k hk⟩
theorem Vb.keep {w w' : World} {v : Value} {s : List Nat} (h : Vb w v s) (k : Below w.heap.size w w') : Vb w' v s := Rel.keep h k
theorem Vb.ok {w : World} {v : Value} {s : List Nat} (h : Vb w v s) : ∀ x ∈ s, x < 256 := by
  obtain ⟨a, b, off, c, rfl, hv, _⟩ := h
  exact (vw_ok hv).2
theorem Str.vb {w : World} {F : Nat → Prop} {v : Value} {s : List Nat} (h : Str w F v s) (hl : s.length ≤ 140737488351232) : Vb w v s := vb_of_own h.own rfl h.ok.2 hl
/-- the bytes as a text -/
def sB (s : List Nat) : ByteArray := str s.length (fun i => ((gd s i : Nat) : Int))
theorem conv_vb {w : World} {a : Option Addr} {n c : Nat} {s : List Nat} (h : Vb w (.slice a n c) s) : n = s.length ∧ ∀ w', Below w.heap.size w w' → (convert 23 9 (.slice a n c)).run Try.prog w' = .ok (.string (sB s)) w' := by
  obtain ⟨a', b, off, c', e, hv, _⟩ := h
  injection e with e1 e2 e3
  subst e1
  subst e3
  refine ⟨e2, fun w' k => ?_⟩
  rw [e2]
  exact convert_view (hv.below k) c
/-- THE VALUE v IS A LIST OF THE LISTS L. -/
def Lv (w : World) (v : Value) (L : List (List Nat)) : Prop :=
  ∃ (a : Option Addr) (b off c : Nat) (Us : List Value), v = .slice a L.length c ∧ Us.length = L.length ∧ (0 < L.length → a = some ⟨b, off, none⟩) ∧ (∀ (i : Nat) (u : Value), Us[i]? = some u → w.cell? ⟨b, off + i, none⟩ = some u) ∧ (∀ (i : Nat) (u : Value) (s : List Nat), Us[i]? = some u → L[i]? = some s → Vb w u s) ∧ L.length ≤ c ∧ L.length ≤ 8796093022208
theorem Lv.keep {w w' : World} {v : Value} {L : List (List Nat)} (h : Lv w v L) (k : Below w.heap.size w w') : Lv w' v L := by
  obtain ⟨a, b, off, c, Us, e, h1, h2, h3, h4, h5, h6⟩ := h
  exact ⟨a, b, off, c, Us, e, h1, h2, fun i u hu => (k.cell (p := ⟨b, off + i, none⟩) (World.block_lt_of_cell? _ _ (h3 i u hu))).trans (h3 i u hu), fun i u s hu hs => (h4 i u s hu hs).keep k, h5, h6⟩
theorem Lv.form {w : World} {v : Value} {L : List (List Nat)} (h : Lv w v L) : ∃ a c, v = .slice a L.length c := by
  obtain ⟨a, b, off, c, Us, e, _⟩ := h
  exact ⟨a, c, e⟩
theorem Lv.ok {w : World} {v : Value} {L : List (List Nat)} (h : Lv w v L) : ∀ s ∈ L, ∀ x ∈ s, x < 256 := fun s hs => by
  obtain ⟨a, b, off, c, Us, e, h1, h2, h3, h4, h5, h6⟩ := h
  obtain ⟨i, hi, rfl⟩ := List.getElem_of_mem hs
  exact (h4 i _ _ (List.getElem?_eq_getElem (by omega)) (List.getElem?_eq_getElem hi)).ok
/-- one of them -/
theorem Lv.nth {w : World} {a : Option Addr} {n c : Nat} {L : List (List Nat)} (h : Lv w (.slice a n c) L) {i : Nat} (hi : i < n) : ∃ b off, a = some ⟨b, off, none⟩ ∧ ∃ au nu cu s, w.cell? ⟨b, off + i, none⟩ = some (.slice au nu cu) ∧ L[i]? = some s ∧ nu = s.length ∧ Vb w (.slice au nu cu) s := by
  obtain ⟨a', b, off, c', Us, e, h1, h2, h3, h4, h5, h6⟩ := h
  injection e with e1 e2 e3
  have e3 := List.getElem?_eq_getElem (l := Us) (i := i) (by omega)
  have e4 := List.getElem?_eq_getElem (l := L) (i := i) (by omega)
  have v1 := h4 i _ _ e3 e4
  have c1 := h3 i _ e3
  obtain ⟨a1, b1, o1, c2, q, r⟩ := v1
  refine ⟨b, off, e1.trans (h2 (by omega)), a1, _, c2, _, c1.trans (congrArg some q), e4, rfl, ?_⟩
  exact ⟨a1, b1, o1, c2, rfl, r⟩
theorem num_any (w : World) (x : Int) : Calls Try.prog 7 #[.int .i64 x] w fun e w' => e = .returned (.int .i64 x) ∧ w' = w := by
  go_enter Try.func7, Try.ntmps7
  go_wp2_with fail
  go_ret
  exact ⟨rfl, rfl⟩
set_option maxRecDepth 100000 in
set_option maxHeartbeats 1600000 in
/-- two lists of the same lists -/
theorem same_yes {w : World} {v u : Value} {L : List (List Nat)} (h : Lv w v L) (h' : Lv w u L) :
    Calls Try.prog 9 #[v, u] w fun e w' => e = .returned (.bool true) ∧ Below w.heap.size w w' := by
  obtain ⟨a, c, rfl⟩ := h.form
  obtain ⟨a', c', rfl⟩ := h'.form
  obtain ⟨n, en⟩ : ∃ n, n = L.length := ⟨_, rfl⟩
  have hn : n ≤ 8796093022208 := by
    obtain ⟨_, _, _, _, _, _, _, _, _, _, _, h6⟩ := h
    omega
  rw [← en] at h h' ⊢
  have HQ : Hid (∀ i, i < n → ∃ b off b' off', a = some ⟨b, off, none⟩ ∧ a' = some ⟨b', off', none⟩ ∧ ∃ xa xn xc ya yn yc S, w.cell? ⟨b, off + i, none⟩ = some (.slice xa xn xc) ∧ w.cell? ⟨b', off' + i, none⟩ = some (.slice ya yn yc) ∧ (∀ w', Below w.heap.size w w' → (convert 23 9 (.slice xa xn xc)).run Try.prog w' = .ok (.string S) w') ∧ (∀ w', Below w.heap.size w w' → (convert 23 9 (.slice ya yn yc)).run Try.prog w' = .ok (.string S) w')) := fun i hi => by
    obtain ⟨b, off, e1, xa, xn, xc, s, c1, l1, -, v1⟩ := h.nth hi
    obtain ⟨b', off', e2, ya, yn, yc, s', c2, l2, -, v2⟩ := h'.nth hi
    have : s' = s := by rw [l1] at l2; exact (Option.some.inj l2).symm
    subst this
    exact ⟨b, off, b', off', e1, e2, xa, xn, xc, ya, yn, yc, sB s', c1, c2, (conv_vb v1).2, (conv_vb v2).2⟩
  clear h h' en
  go_enter Try.func9, Try.ntmps9
  go_wp2_with fail
  go_loopg [13] n (fun g i wr => ∃ (k q : Nat), k ≤ n ∧ g = n - k ∧ i = .int .i64 k ∧ wr = w.drewN q)
  case atStart => exact ⟨0, 0, Nat.zero_le _, rfl, rfl, rfl⟩
  case round =>
    obtain ⟨k, q, hk, rfl, rfl, ewr⟩ := hrel
    by_cases hkn : k < n
    · have i1 : (k : Int) < (n : Int) := by omega
      obtain ⟨b, off, b', off', rfl, rfl, xa, xn, xc, ya, yn, yc, S, c1, c2, v1, v2⟩ := HQ.out k hkn
      have d1 : wr.cell? ⟨b, off + k, none⟩ = some (.slice xa xn xc) := by rw [ewr]; simpa using c1
      have d2 : wr.cell? ⟨b', off' + k, none⟩ = some (.slice ya yn yc) := by rw [ewr]; simpa using c2
      have cv1 : ∀ q', (convert 23 9 (.slice xa xn xc)).run Try.prog (wr.drewN q') = .ok (.string S) (wr.drewN q') := fun q' => v1 _ (by rw [ewr]; exact below_drewN (below_drewN (Below.refl _ _) q) q')
      have cv2 : ∀ q', (convert 23 9 (.slice ya yn yc)).run Try.prog (wr.drewN q') = .ok (.string S) (wr.drewN q') := fun q' => v2 _ (by rw [ewr]; exact below_drewN (below_drewN (Below.refl _ _) q) q')
      have HW : Hid (wr = w.drewN q) := ewr
      clear c1 c2 v1 v2 ewr
      go_wp2_with fail
      go_quiet (fail)
      go_wp2_with fail
      go_roundg (n - (k + 1))
      case measure => omega
      case rel => exact ⟨k + 1, q + nq, by omega, rfl, by go_num, by rw [HW.out]; simp⟩
    · have : k = n := by omega
      subst this
      go_wp2_with fail
      go_ret
      exact ⟨rfl, by first | exact below_drewN (Below.refl _ _) q | (rw [ewr]; exact below_drewN (Below.refl _ _) q)⟩
end Go.Proofs.Ytledfigfokoiiaa
