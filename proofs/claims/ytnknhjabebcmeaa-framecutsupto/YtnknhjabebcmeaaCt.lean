/-
  FrameCuts: what it needs of lists; beginnings of lists of lists.
-/
import Derived.Test.YtnknhjabebcmeaaFsL
namespace Go.Proofs.Ytnknhjabebcmeaa
open Go.RowKit

/-! ### lists -/
theorem tot_take_le (l : List (List Nat)) (i j : Nat) (h : i ≤ j) : tot (l.take i) ≤ tot (l.take j) := by
  have e : l.take j = l.take i ++ (l.drop i).take (j - i) := by
    rw [← List.take_add, Nat.add_sub_cancel' h]
  rw [e, tot_app]
  omega
theorem tot_take_lt (l : List (List Nat)) (i j : Nat) (h : i < j) (hi : i < l.length) : tot (l.take i) + 7 ≤ tot (l.take j) := by
  have h1 := tot_take_le l (i + 1) j h
  rw [List.take_succ_eq_append_getElem hi, tot_app] at h1
  simp only [tot] at h1
  omega
theorem edF_at : ∀ (l : List (List Nat)) (a i : Nat), i < l.length → gd (edF a l) i = a + tot (l.take (i + 1))
  | p :: l, a, 0, _ => by simp [edF, gd, tot]
  | p :: l, a, i + 1, h => by
    have := edF_at l (a + (7 + p.length)) i (by simpa using h)
    show gd (edF (a + (7 + p.length)) l) i = _
    rw [this]
    simp only [List.take_succ_cons, tot]
    omega
theorem cut_unique {l : List (List Nat)} {K j m : Nat} (hj : j ≤ l.length) (hm : m ≤ l.length) (h1 : ∀ i, i < j → tot (l.take (i + 1)) ≤ K) (h2 : j < l.length → K < tot (l.take (j + 1))) (h3 : tot (l.take m) ≤ K) (h4 : m < l.length → K < tot (l.take (m + 1))) : j = m := by
  rcases Nat.lt_trichotomy j m with q | q | q
  · have a := h2 (by omega)
    have b := tot_take_le l (j + 1) m (by omega)
    omega
  · exact q
  · have a := h4 (by omega)
    have b := h1 m q
    omega
/-- the payloads as they are wrapped -/
def clip (L : List (List Nat)) : List (List Nat) := L.map (List.take 16384)
theorem clip_le (L : List (List Nat)) : ∀ p ∈ clip L, p.length ≤ 16384 := fun p hp => by
  unfold clip at hp
  obtain ⟨q, _, rfl⟩ := List.mem_map.1 hp
  rw [List.length_take]
  omega
theorem clip_len (L : List (List Nat)) : (clip L).length = L.length := by simp [clip]
theorem clip_take (L : List (List Nat)) (i : Nat) (hi : i < L.length) : clip (L.take (i + 1)) = clip (L.take i) ++ [(L[i]).take 16384] := by
  unfold clip
  rw [List.take_succ_eq_append_getElem hi, List.map_append]
  rfl
theorem tot_le (l : List (List Nat)) (h : ∀ p ∈ l, p.length ≤ 16384) : tot l ≤ 16391 * l.length := by
  induction l with
  | nil => simp [tot]
  | cons p l ih =>
    have h1 := h p (List.mem_cons_self ..)
    have h2 := ih (fun q hq => h q (List.mem_cons_of_mem _ hq))
    simp only [tot, List.length_cons]
    omega
theorem flat_bytes (l : List (List Nat)) (h : ∀ p ∈ l, p.length ≤ 16384 ∧ ∀ x ∈ p, x < 256) : ∀ x ∈ flat l, x < 256 := by
  induction l with
  | nil => intro x hx; cases hx
  | cons p l ih =>
    intro x hx
    rcases List.mem_append.1 hx with q | q
    · exact frm_bytes (h p (List.mem_cons_self ..)).2 (h p (List.mem_cons_self ..)).1 x q
    · exact ih (fun q hq => h q (List.mem_cons_of_mem _ hq)) x q
theorem flat_snoc (l : List (List Nat)) (p : List Nat) : flat (l ++ [p]) = flat l ++ frm p := by
  rw [flat_app]
  simp [flat]
theorem tot_snoc (l : List (List Nat)) (p : List Nat) : tot (l ++ [p]) = tot l + (7 + p.length) := by
  rw [tot_app]
  simp [tot]
theorem edF_snoc (l : List (List Nat)) (p : List Nat) : edF 0 (l ++ [p]) = edF 0 l ++ [tot l + (7 + p.length)] := by
  rw [edF_app]
  simp [edF]
theorem clipped {s : List Nat} : wrE (s.take 16384) = 0 ∧ wrR (s.take 16384) = frm (s.take 16384) := by
  have : (s.take 16384).length ≤ 16384 := by rw [List.length_take]; omega
  exact ⟨if_pos this, if_pos this⟩

/-! ### beginnings -/
theorem elemL : Try.prog.elem 22 = 23 := by kernel_rfl
theorem elemI : Try.prog.elem 24 = 3 := by kernel_rfl
theorem sizeL : (Try.prog.info? 23).map (·.size) = some 1 := by kernel_rfl
theorem sizeI : (Try.prog.info? 3).map (·.size) = some 1 := by kernel_rfl
theorem slice_uptoL (a : Option Addr) (n c K : Nat) (h : K ≤ c) (w : World) : (Instr.slice 22 (.slice a n c) none (some (.int .i64 K)) none).run Try.prog w = .ok (.slice a K c) w := by
  have hz : (sizeOf 23).run Try.prog w = .ok 1 w := by
    have := sizeL
    cases hq : Try.prog.info? 23 with
    | none => simp [hq] at this
    | some i => simp [hq] at this; simp [sizeOf, typeInfo, hq, this]
  rw [run_slice_h w 22 a n c (by rw [elemL]; exact Try.underlying22) .i64 K (by omega) (by omega), elemL, hz]
  simp only [Result.andThen, sliced]
  congr 1
  cases a <;> simp [Addr.add]
theorem slice_uptoI (a : Option Addr) (n c K : Nat) (h : K ≤ c) (w : World) : (Instr.slice 24 (.slice a n c) none (some (.int .i64 K)) none).run Try.prog w = .ok (.slice a K c) w := by
  have hz : (sizeOf 3).run Try.prog w = .ok 1 w := by
    have := sizeI
    cases hq : Try.prog.info? 3 with
    | none => simp [hq] at this
    | some i => simp [hq] at this; simp [sizeOf, typeInfo, hq, this]
  rw [run_slice_h w 24 a n c (by rw [elemI]; exact Try.underlying24) .i64 K (by omega) (by omega), elemI, hz]
  simp only [Result.andThen, sliced]
  congr 1
  cases a <;> simp [Addr.add]
theorem Lv.pre {w : World} {a : Option Addr} {n c : Nat} {L : List (List Nat)} (h : Lv w (.slice a n c) L) (k : Nat) (hk : k ≤ L.length) : Lv w (.slice a k c) (L.take k) := by
  obtain ⟨a', b, off, c', Us, e, h1, h2, h3, h4, h5, h6⟩ := h
  injection e with e1 e2 e3
  subst e1
  subst e3
  have hl : (L.take k).length = k := by rw [List.length_take]; omega
  refine ⟨a, b, off, c, Us.take k, by rw [hl], by rw [hl, List.length_take]; omega, fun h => h2 (by omega), fun i u hu => h3 i u ?_, fun i u s hu hs => h4 i u s ?_ ?_, by omega, by omega⟩
  · rw [List.getElem?_take] at hu
    split at hu
    · exact hu
    · cases hu
  · rw [List.getElem?_take] at hu
    split at hu
    · exact hu
    · cases hu
  · rw [List.getElem?_take] at hs
    split at hs
    · exact hs
    · cases hs
theorem Iv.pre {w : World} {a : Option Addr} {n c : Nat} {N : List Nat} (h : Iv w (.slice a n c) N) (k : Nat) (hk : k ≤ N.length) : Iv w (.slice a k c) (N.take k) := by
  obtain ⟨a', b, off, c', e, h2, h3, h5, h6⟩ := h
  injection e with e1 e2 e3
  subst e1
  subst e3
  have hl : (N.take k).length = k := by rw [List.length_take]; omega
  refine ⟨a, b, off, c, by rw [hl], fun h => h2 (by omega), fun i hi => ?_, by omega, by omega⟩
  rw [h3 i (by omega)]
  unfold gd
  rw [List.getD_eq_getElem?_getD, List.getD_eq_getElem?_getD, List.getElem?_take, if_pos (by omega)]
/-- bytes' beginning -/
theorem Vb.pre {w : World} {a : Option Addr} {n c : Nat} {s : List Nat} (h : Vb w (.slice a n c) s) (k : Nat) (hk : k ≤ s.length) : Vb w (.slice a k c) (s.take k) := by
  obtain ⟨a', b, off, c', e, hv, h1, h2, h3⟩ := h
  injection e with e1 e2 e3
  subst e1
  subst e3
  have hl : (s.take k).length = k := by rw [List.length_take]; omega
  have eg : ∀ i, i < k → gd (s.take k) i = gd s i := fun i hi => by
    unfold gd
    rw [List.getD_eq_getElem?_getD, List.getD_eq_getElem?_getD, List.getElem?_take, if_pos hi]
  refine ⟨a, b, off, c, by rw [hl], ⟨fun h => hv.at_ (by omega), fun i hi => ?_, fun i hi => ?_, by rw [hl]; have := hv.len; omega⟩, by omega, h2, by omega⟩
  · rw [hl] at hi
    rw [eg i hi]
    exact hv.cell i (by omega)
  · rw [hl] at hi
    rw [eg i hi]
    exact hv.bd i (by omega)
theorem edF_take (l : List (List Nat)) (a k : Nat) : (edF a l).take k = edF a (l.take k) := by
  induction l generalizing a k with
  | nil => simp [edF]
  | cons p l ih =>
    cases k with
    | zero => simp [edF]
    | succ k => simp only [edF, List.take_succ_cons]; rw [ih]
/-- a list of lists in a row of its own, its lists wherever they lie -/
theorem lv_own {w0 w : World} {B : Nat} {v : Value} {Us : List Value} {L : List (List Nat)} (h : w.ownsRow B 23 1 v L.length Us) (hu : ∀ (i : Nat) (u : Value) (s : List Nat), Us[i]? = some u → L[i]? = some s → Vb w0 u s) (k : Below w0.heap.size w0 w) (hl : L.length ≤ 1099511627776) : Lv w v L := by
  have he : Us.length = L.length := by have := h.1; omega
  have hu' : ∀ (i : Nat) (u : Value) (s : List Nat), Us[i]? = some u → L[i]? = some s → Vb w u s := fun i u s h1 h2 => (hu i u s h1 h2).keep k
  rcases h.2 with ⟨rfl, h0⟩ | ⟨g, cap, cur, rfl, hB, hg, h1, h2, h3, h4⟩
  · exact ⟨none, 0, 0, 0, Us, by rw [h0], he, fun k => by omega, fun i u hi => by have := (List.getElem?_eq_some_iff.1 hi).1; omega, hu', by omega, hl⟩
  · refine ⟨_, g, 0, cap, Us, rfl, he, fun _ => rfl, fun i u hi => ?_, hu', h1, hl⟩
    have := h.cells (g := g) rfl i u hi
    rw [add_flat] at this
    rw [Nat.zero_add]
    exact this
theorem tmod_abs (n : Int) (N : Nat) : (n.tmod ((N : Int) + 1)).natAbs ≤ N := by
  have h := Int.natAbs_tmod n ((N : Int) + 1)
  have e : ((N : Int) + 1).natAbs = N + 1 := by omega
  rw [h, e]
  have := Nat.mod_lt n.natAbs (show 0 < N + 1 by omega)
  omega
end Go.Proofs.Ytnknhjabebcmeaa
