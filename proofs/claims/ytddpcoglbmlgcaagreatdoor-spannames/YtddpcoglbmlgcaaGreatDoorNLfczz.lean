import Derived.Test.YtddpcoglbmlgcaaGreatDoorNLfbzz
/-
  writeHead.
-/
namespace Go.Proofs.YtddpcoglbmlgcaaGreatDoor
open Go.RowKit
theorem splice_len {t s : List Nat} {K : Nat} (h : K + s.length ≤ t.length) : (splice t K s).length = t.length := length_splice t K s h
theorem splice_gd {t s : List Nat} {K i : Nat} (h : K + s.length ≤ t.length) : gd (splice t K s) i = if K ≤ i ∧ i < K + s.length then gd s (i - K) else gd t i := by
  unfold splice
  have lk : (t.take K).length = K := by simp; omega
  by_cases h1 : i < K
  · rw [gd_app_l (by omega), if_neg (by omega)]
    unfold gd
    rw [List.getD_eq_getElem?_getD, List.getD_eq_getElem?_getD, List.getElem?_take, if_pos h1]
  · obtain ⟨j, rfl⟩ : ∃ j, i = K + j := ⟨i - K, by omega⟩
    have e1 := gd_app_r (s := t.take K) (t := s ++ t.drop (K + s.length)) (i := j)
    rw [lk] at e1
    rw [e1]
    by_cases h2 : j < s.length
    · rw [gd_app_l h2, if_pos (by omega), Nat.add_sub_cancel_left]
    · obtain ⟨m, rfl⟩ : ∃ m, j = s.length + m := ⟨j - s.length, by omega⟩
      rw [gd_app_r, if_neg (by omega)]
      unfold gd
      rw [List.getD_eq_getElem?_getD, List.getD_eq_getElem?_getD, List.getElem?_drop, Nat.add_assoc]
theorem splice_splice {t s u : List Nat} {K L : Nat} (hL : L = K + u.length) (h : L + s.length ≤ t.length) : splice (splice t L s) K u = splice t K (u ++ s) := by
  have l1 : (splice t L s).length = t.length := splice_len h
  have l3 : (u ++ s).length = u.length + s.length := List.length_append
  apply ext_gd
  · rw [splice_len (by omega), l1, splice_len (by omega)]
  · intro i _
    rw [splice_gd (by omega), splice_gd (by omega), splice_gd (by omega), l3]
    by_cases h1 : K ≤ i ∧ i < K + u.length
    · rw [if_pos h1, if_pos (by omega), gd_app_l (by omega)]
    · rw [if_neg h1]
      by_cases h2 : L ≤ i ∧ i < L + s.length
      · rw [if_pos h2, if_pos (by omega)]
        obtain ⟨m, rfl⟩ : ∃ m, i = K + (u.length + m) := ⟨i - K - u.length, by omega⟩
        rw [Nat.add_sub_cancel_left, gd_app_r]
        congr 1
        omega
      · rw [if_neg h2, if_neg (by omega)]
theorem vw_one (w : World) (x : Nat) (hx : x < 256) : Vw (w.alloc (.cells #[.int .u8 (x : Int)] 5)) (some ⟨w.heap.size, 0, none⟩) w.heap.size 0 [x] := by
  refine ⟨fun _ => rfl, fun i hi => ?_, fun i hi => ?_, by simp⟩
  · have : i = 0 := by simp at hi; omega
    subst this
    rw [cell_of_row _ _ _ _ 5 _ (heap_alloc_new w _)]
    rfl
  · have : i = 0 := by simp at hi; omega
    subst this
    simp [gd]
    omega
set_option maxRecDepth 100000 in
set_option maxHeartbeats 800000 in
theorem writeHead_any (w : World) (g L K N n base : Nat) (t : List Nat) (hr : Rm w g t) (hN : t.length = N) (hLN : L ≤ N) (hN63 : N ≤ 9223372036854775807) (hn : n ≤ 1048576) (hb : base ≤ 192) (hL : L = K + (hdr base n).length) :
    Calls Tryz.prog 121 #[.slice (some ⟨g, 0, none⟩) L N, .int .i64 n, .int .u8 base] w fun e w' =>
      e = .returned (.slice (some ⟨g, 0, none⟩) K N) ∧ Rm w' g (splice t K (hdr base n)) ∧ Turn (fun i => i = g) w w' := by
  by_cases h : n < 56
  · have eh : hdr base n = [base + n] := by unfold hdr; rw [if_pos h]
    rw [eh] at hL ⊢
    have i1 : (n : Int) < 56 := by omega
    have e2 : (n : Int) % 256 = n := by omega
    have ec : ((base + n : Nat) : Int) = (base : Int) + n := by omega
    have t0 : Turn (fun i => i = g) w (w.alloc (.cells #[.int .u8 ((base : Int) + n)] 5)) := Turn.alloc w _
    have K1 := writeEnd_any (w.alloc (.cells #[.int .u8 ((base + n : Nat) : Int)] 5)) g L K N t (hr.below ((Below.refl _ _).alloc (Nat.le_refl _) _)) hN hLN hN63 _ _ _ 1 [base + n] (vw_one w (base + n) (by omega)) hL
    rw [ec] at K1
    have HT : Hid (Turn (fun i => i = g) w (w.alloc (.cells #[.int .u8 ((base : Int) + n)] 5))) := t0
    clear t0 hL hN hLN hr ec
    go_enter Tryz.func121, Tryz.ntmps121
    go_wp2_with (go_at_call 120; refine K1.mono ?_; rintro e w1 ⟨rfl, hr1, ht1⟩; have HR : Hid (Rm w1 g (splice t K [base + n]) ∧ Turn (fun i => i = g) w w1) := ⟨hr1, HT.out.trans ht1 (fun i q => Or.inl q)⟩; clear hr1 ht1)
    go_ret
    exact ⟨rfl, HR.out⟩
  · have eh : hdr base n = (base + 55 + (digs n).length) :: digs n := by unfold hdr; rw [if_neg h]
    have i1 : ¬ (n : Int) < 56 := by omega
    have l3 : (digs n).length ≤ 3 := digs_len_le (by omega)
    have K0 := digitsOf_any w n (by omega)
    have HH : Hid (Rm w g t ∧ t.length = N ∧ L ≤ N ∧ L = K + 1 + (digs n).length ∧ ∀ x ∈ digs n, x < 256) := ⟨hr, hN, hLN, by rw [hL, eh]; simp; omega, digs_lt n⟩
    have HE : Hid (hdr base n = (base + 55 + (digs n).length) :: digs n) := eh
    obtain ⟨k, ek⟩ : ∃ k, k = (digs n).length := ⟨_, rfl⟩
    have HKK : Hid (k = (digs n).length) := ek
    rw [← ek] at K0 l3
    clear hr hN hLN hL eh ek
    have hw : g < w.heap.size := HH.out.1.lt
    go_enter Tryz.func121, Tryz.ntmps121
    go_wp2_with (go_at_call 147; refine K0.mono ?_; rintro e w1 ⟨rfl, hm1⟩)
    have K1 := writeEnd_any w1 g L (K + 1) N t (HH.out.1.below hm1.below) HH.out.2.1 HH.out.2.2.1 hN63 _ _ _ k (digs n) (hm1.room.view HH.out.2.2.2.2 (by have := HKK.out; omega)) HH.out.2.2.2.1
    rw [← HKK.out] at K1
    have t1 : Turn (fun i => i = g) w w1 := Turn.of_below hm1.below
    have HT : Hid (Turn (fun i => i = g) w w1) := t1
    clear t1 hm1
    go_wp2_with (go_at_call_of 120 (Value.slice (some ⟨w.heap.size, 0, none⟩) k k); refine K1.mono ?_; rintro e w2 ⟨rfl, hr2, ht2⟩)
    have t2 : Turn (fun i => i = g) w w2 := HT.out.trans ht2 (fun i q => Or.inl q)
    have q1 := HH.out.2.1
    have q2 := HH.out.2.2.1
    have q3 := HH.out.2.2.2.1
    have q4 : (splice t (K + 1) (digs n)).length = N := by rw [splice_len (by omega)]; exact q1
    have q5 : K + 1 ≤ N := by omega
    have HQ : Hid (K + 1 + (digs n).length ≤ t.length) := by rw [← q3, q1]; exact q2
    clear q1 q2 q3
    have K2 := writeEnd_any (w2.alloc (.cells #[.int .u8 ((base + 55 + k : Nat) : Int)] 5)) g (K + 1) K N (splice t (K + 1) (digs n)) (hr2.below ((Below.refl _ _).alloc (Nat.le_refl _) _)) q4 q5 hN63 _ _ _ 1 [base + 55 + k] (vw_one w2 (base + 55 + k) (by omega)) (by simp)
    have ec : ((base + 55 + k : Nat) : Int) = (base : Int) + 56 - 1 + k := by omega
    rw [ec] at K2
    have e4 : (k : Int) % 256 = k := by omega
    have HT2 : Hid (Turn (fun i => i = g) w (w2.alloc (.cells #[.int .u8 ((base : Int) + 56 - 1 + k)] 5))) := t2.trans (Turn.alloc w2 _ (F := fun i => i = g)) (fun i q => Or.inl q)
    clear hr2 ht2 t2 HT ec q4 q5
    go_wp2_with (go_at_call 120; refine K2.mono ?_; rintro e w3 ⟨rfl, hr3, ht3⟩; have HR : Hid (Rm w3 g (splice t K (hdr base n)) ∧ Turn (fun i => i = g) w w3) := ⟨by rw [HE.out, ← HKK.out]; rw [splice_splice (by simp) HQ.out] at hr3; exact hr3, HT2.out.trans ht3 (fun i q => Or.inl q)⟩; clear hr3 ht3)
    go_ret
    exact ⟨rfl, HR.out⟩
end Go.Proofs.YtddpcoglbmlgcaaGreatDoor
