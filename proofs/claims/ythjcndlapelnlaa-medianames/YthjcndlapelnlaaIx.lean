/-
  slices.IndexFunc, slices.ContainsFunc of what was touched.
-/
import Derived.Test.YthjcndlapelnlaaS1
namespace Go.Proofs.Ythjcndlapelnlaa
open Go.RowKit Go.Maps Go.ChangeMaps

theorem hcs_at : ∀ (l : List (List Nat)) (i : Nat) (k : List Nat), (∀ x ∈ l, x.length = 32) → l[i]? = some k → ∀ (j : Nat) (v : Value), (bv k)[j]? = some v → (hcs l)[i * 32 + j]? = some v
  | x :: l, 0, k, hl, h, j, v, hv => by
    simp at h
    subst h
    simp only [hcs, Nat.zero_mul, Nat.zero_add]
    rw [List.getElem?_append_left (List.getElem?_eq_some_iff.1 hv).1]
    exact hv
  | x :: l, i + 1, k, hl, h, j, v, hv => by
    have := hcs_at l i k (fun y hy => hl y (by simp [hy])) (by simpa using h) j v hv
    simp only [hcs]
    have e : (bv x).length = 32 := by rw [bv_len]; exact hl x (by simp)
    rw [List.getElem?_append_right (by rw [e]; omega), e, show (i + 1) * 32 + j - 32 = i * 32 + j by omega]
    exact this
theorem Dr.tcf' {w : World} {F : Nat → Prop} {s : Dst} {X : Dx} (h : Dr w F s X) : ∃ a b c, X.tc = .slice a s.tch.length c ∧ (0 < s.tch.length → a = some ⟨b, 0, none⟩) ∧ s.tch.length ≤ c ∧ ∀ (i : Nat) (k : List Nat), s.tch[i]? = some k → w.rangeAt b (i * 32) (bv k) := by
  rcases h.tc.2 with ⟨e, h0⟩ | ⟨g, cap, cur, e, hB, hg, h1, h2, h3, h4⟩
  · exact ⟨none, 0, 0, by rw [e, h0], fun q => by omega, by omega, fun i x hx => by have := (List.getElem?_eq_some_iff.1 hx).1; omega⟩
  · refine ⟨_, g, cap, e, fun _ => rfl, h1, fun i k hk j v hv => ?_⟩
    have := World.ownsRow.cells h.tc (g := g) (by rw [e]; rfl) (i * 32 + j) v (hcs_at _ i k (fun x hx => (h.key x hx).1) hk j v hv)
    rw [add_flat] at this
    exact this
/-- has the access turned what stands under one of the keys? -/
def anyT (s : Dst) : Bool := s.tch.any (fun k => turnd (s.sta k) s.tm)
theorem any_false {α : Type} {p : α → Bool} {l : List α} (h : ∀ (i : Nat) (x : α), i < l.length → l[i]? = some x → p x = false) : l.any p = false := by
  rw [List.any_eq_false]
  intro x hx
  obtain ⟨i, hi, e⟩ := List.getElem_of_mem hx
  have := h i x hi (by rw [← e]; exact List.getElem?_eq_getElem hi)
  simp [this]
set_option maxRecDepth 100000 in
set_option maxHeartbeats 3200000 in
theorem indexf_any {w : World} {F : Nat → Prop} {g bx : Nat} {s : Dst} {X : Dx} (hd : Db w g (X.dvf s)) (h : Dr w F s X) (hN : X.N ≤ 1073741824) (hbx : w.cell? ⟨bx, 0, none⟩ = some (.pointer (some ⟨g, 0, none⟩))) :
    Calls Try.prog 80 #[X.tc, .func (.func 62) #[] #[.pointer (some ⟨bx, 0, none⟩)]] w fun e w' => ∃ r : Int, e = .returned (.int .i64 r) ∧ decide (0 ≤ r) = anyT s ∧ -1 ≤ r ∧ r ≤ 1073741824 ∧ Below w.heap.size w w' := by
  have HW : Hid (∀ u, Below w.heap.size w u → ∀ k, IsH k → Calls Try.prog 62 #[.agg (bv k).toArray, .pointer (some ⟨bx, 0, none⟩)] u fun e w' => e = .returned (.bool (turnd (s.sta k) s.tm)) ∧ Below u.heap.size u w') := fun u b k hk =>
    settle1_any (hd.keep b) (h.keep b) hN hk ((b.cell (World.block_lt_of_cell? _ _ hbx)).trans hbx)
  obtain ⟨a, b, c, e, ha, hc, hr⟩ := h.tcf'
  have HR : Hid ((0 < s.tch.length → a = some ⟨b, 0, none⟩) ∧ ∀ (i : Nat) (k : List Nat), s.tch[i]? = some k → w.rangeAt b (i * 32) (bv k)) := ⟨ha, hr⟩
  have HK : Hid (∀ k ∈ s.tch, IsH k) := h.key
  have hn : s.tch.length ≤ 1073741824 := Nat.le_trans h.bd.2.2 hN
  obtain ⟨n, en⟩ : ∃ n, n = s.tch.length := ⟨_, rfl⟩
  have HN : Hid (n = s.tch.length) := en
  rw [e]
  rw [← en] at HR hn hc ⊢
  clear hd h e ha hr en hbx
  go_enter Try.func80, Try.ntmps80
  go_wp2_with fail
  go_loopg [8] n (fun m ii wr => ∃ i : Nat, i ≤ n ∧ m = n - i ∧ ii = .int .i64 i ∧ (∀ (j : Nat) (x : List Nat), j < i → s.tch[j]? = some x → turnd (s.sta x) s.tm = false) ∧ Below w.heap.size w wr)
  case atStart => exact ⟨0, Nat.zero_le _, rfl, rfl, fun j x hj => absurd hj (by omega), Below.refl _ _⟩
  case round =>
    obtain ⟨i, hin, rfl, rfl, hno, hb⟩ := hrel
    have HO : Hid ((∀ (j : Nat) (x : List Nat), j < i → s.tch[j]? = some x → turnd (s.sta x) s.tm = false) ∧ Below w.heap.size w wr) := ⟨hno, hb⟩
    clear hno hb
    by_cases hlt : i < n
    · have i1 : (i : Int) < (n : Int) := by omega
      have i0 : (0 : Int) ≤ (i : Int) := by omega
      obtain rfl := HR.out.1 (by omega)
      obtain ⟨k, hk⟩ : ∃ k, s.tch[i]? = some k := ⟨_, List.getElem?_eq_getElem (by have := HN.out; omega)⟩
      have HKK : Hid (IsH k ∧ s.tch[i]? = some k) := ⟨HK.out k (List.mem_of_getElem? hk), hk⟩
      have HX : Hid (wr.rangeAt b (i * 32) (bv k)) := rng_keep (HR.out.2 i k hk) HO.out.2
      have HI : Hid ((Try.prog.info? 33).map (·.size) = some (bv k).length) := by rw [bv_len, HKK.out.1.1]; exact i33
      clear hk
      go_wp2_with (refine wpList_load_mid_g (by kernel_rfl) 33 _ (by rfl) b (i * 32) (by rfl) (bv k) _ HX.out Try.underlying33 rfl HI.out ?_)
      refine (HW.out wr HO.out.2 k HKK.out.1).mono ?_
      rintro e w1 ⟨rfl, hb1⟩
      have HB1 : Hid (Below w.heap.size w w1) := ch HO.out.2 hb1
      clear hb1
      obtain ⟨q, hq⟩ : ∃ q, q = turnd (s.sta k) s.tm := ⟨_, rfl⟩
      have HQ : Hid (q = turnd (s.sta k) s.tm) := hq
      rw [← hq]
      clear hq
      cases q with
      | true =>
        have HT : Hid (anyT s = true) := List.any_eq_true.2 ⟨k, List.mem_of_getElem? HKK.out.2, HQ.out.symm⟩
        go_wp2_with fail
        go_ret
        exact ⟨(i : Int), rfl, by rw [HT.out]; exact decide_eq_true (by omega), by omega, by omega, HB1.out⟩
      | false =>
        go_wp2_with fail
        go_roundg (n - (i + 1))
        case measure => omega
        case rel =>
          refine ⟨i + 1, by omega, rfl, by go_num, fun j x hj hx => ?_, HB1.out⟩
          rcases Nat.lt_or_ge j i with q | q
          · exact HO.out.1 j x q hx
          · obtain rfl : j = i := by omega
            rw [HKK.out.2] at hx
            rw [← Option.some.inj hx]
            exact HQ.out.symm
    · have i1 : ¬ (i : Int) < (n : Int) := by omega
      have HT : Hid (anyT s = false) := any_false (fun j x hj hx => HO.out.1 j x (by have := HN.out; omega) hx)
      go_wp2_with fail
      go_ret
      exact ⟨-1, rfl, by rw [HT.out]; exact decide_eq_false (by omega), by omega, by omega, HO.out.2⟩
set_option maxRecDepth 100000 in
set_option maxHeartbeats 1600000 in
theorem contains_any {w : World} {F : Nat → Prop} {g bx : Nat} {s : Dst} {X : Dx} (hd : Db w g (X.dvf s)) (h : Dr w F s X) (hN : X.N ≤ 1073741824) (hbx : w.cell? ⟨bx, 0, none⟩ = some (.pointer (some ⟨g, 0, none⟩))) :
    Calls Try.prog 61 #[X.tc, .func (.func 62) #[] #[.pointer (some ⟨bx, 0, none⟩)]] w fun e w' => e = .returned (.bool (anyT s)) ∧ Below w.heap.size w w' := by
  have HK := indexf_any hd h hN hbx
  obtain ⟨a, b, c, e, _⟩ := h.tcf'
  rw [e] at HK ⊢
  have HK' : Hid (Calls Try.prog 80 #[.slice a s.tch.length c, .func (.func 62) #[] #[.pointer (some ⟨bx, 0, none⟩)]] w fun e w' => ∃ r : Int, e = .returned (.int .i64 r) ∧ decide (0 ≤ r) = anyT s ∧ -1 ≤ r ∧ r ≤ 1073741824 ∧ Below w.heap.size w w') := HK
  generalize s.tch.length = n at *
  clear hd h HK e
  go_enter Try.func61, Try.ntmps61
  go_wp2_with (go_at_call 80; refine HK'.out.mono ?_; rintro e w' ⟨r, rfl, hr, _, _, hb⟩; have HR : Hid (decide (0 ≤ r) = anyT s ∧ Below w.heap.size w w') := ⟨hr, hb⟩; clear hr hb HK')
  go_ret
  exact ⟨by rw [← HR.out.1]; rfl, HR.out.2⟩
end Go.Proofs.Ythjcndlapelnlaa
