import Derived.Test.YtepeolbbplodfaaGreatDoorX5q
import Derived.Test.YtepeolbbplodfaaGreatDoorZvq
import Derived.Test.YtepeolbbplodfaaGreatDoorFlq
/-
  What a source tells: a list of answers; Ask. (Written by gen_x9.py.)
-/
namespace Go.Proofs.YtepeolbbplodfaaGreatDoor
open Go.RowKit Go.Maps

/-- an answer: its hash, its bytes, its error -/
structure Td where
  key : List Nat
  data : List Nat
  err : Int
def tdc (t : Td) (v : Value) : List Value := bv t.key ++ [v, .int .i64 t.err]
/-- what a list tells -/
def ask (L : List Td) (h : List Nat) : Td := (L.find? (fun t => decide (t.key = h))).getD ⟨h, [], 5⟩
/-- A LIST OF ANSWERS, in blocks of P -/
structure Tls (P : Nat → Prop) (w : World) (v : Value) (L : List Td) (dv : Nat → Value) : Prop where
  sl : ∃ a b off c, v = .slice a L.length c ∧ (0 < L.length → a = some ⟨b, off, none⟩ ∧ P b ∧ b < w.heap.size) ∧ ∀ i t, L[i]? = some t → w.rangeAt b (off + i * 34) (tdc t (dv i))
  key : ∀ t ∈ L, IsH t.key
  dat : ∀ i t, L[i]? = some t → Vf P w (dv i) t.data
  len : L.length ≤ 1048576
theorem vf_turn {P G : Nat → Prop} {w w' : World} {v : Value} {s : List Nat} (h : Vf P w v s) (t : Turn G w w') (hd : ∀ i, P i → i < w.heap.size → ¬ G i) : Vf P w' v s := h.same (fun i hi hl => t.block i hl (hd i hi hl))
theorem Tls.turn {P G : Nat → Prop} {w w' : World} {v : Value} {L : List Td} {dv : Nat → Value} (h : Tls P w v L dv) (t : Turn G w w') (hd : ∀ i, P i → i < w.heap.size → ¬ G i) : Tls P w' v L dv := by
  obtain ⟨a, b, off, c, h1, h2, h3⟩ := h.sl
  refine ⟨⟨a, b, off, c, h1, fun q => ⟨(h2 q).1, (h2 q).2.1, Nat.lt_of_lt_of_le (h2 q).2.2 t.size⟩, fun i x hx => ?_⟩, h.key, fun i x hx => vf_turn (h.dat i x hx) t hd, h.len⟩
  have h0 : 0 < L.length := by have := (List.getElem?_eq_some_iff.1 hx).1; omega
  exact rng_same (h3 i x hx) (t.block b (h2 h0).2.2 (hd b (h2 h0).2.1 (h2 h0).2.2))
theorem Tls.keep {P : Nat → Prop} {w w' : World} {v : Value} {L : List Td} {dv : Nat → Value} (h : Tls P w v L dv) (k : Below w.heap.size w w') : Tls P w' v L dv := h.turn (G := fun _ => False) (Turn.of_below k) (fun _ _ _ q => q)
theorem tdc_at {w : World} {b o : Nat} {t : Td} {v : Value} (ht : t.key.length = 32) (h : w.rangeAt b o (tdc t v)) : w.rangeAt b o (bv t.key) ∧ w.cell? ⟨b, o + 32, none⟩ = some v ∧ w.cell? ⟨b, o + 33, none⟩ = some (.int .i64 t.err) := by
  refine ⟨rng_left h, ?_, ?_⟩
  · have := rng_right h 0 v rfl
    rw [bv_len, ht] at this
    exact this
  · have := rng_right h 1 _ rfl
    rw [bv_len, ht] at this
    exact this
theorem ask_hit {L : List Td} {h : List Nat} {k : Nat} {t : Td} (hk : L[k]? = some t) (ht : t.key = h) (hb : ∀ j x, j < k → L[j]? = some x → x.key ≠ h) : ask L h = t := by
  unfold ask
  have : L.find? (fun t => decide (t.key = h)) = some t := by
    rw [List.find?_eq_some_iff_getElem]
    obtain ⟨h1, h2⟩ := List.getElem?_eq_some_iff.1 hk
    refine ⟨by simpa using ht, k, h1, h2, fun j hj => ?_⟩
    have := hb j L[j] hj (List.getElem?_eq_getElem (by omega))
    simpa using this
  rw [this]
  rfl
theorem ask_no {L : List Td} {h : List Nat} (hb : ∀ (j : Nat) (x : Td), L[j]? = some x → x.key ≠ h) : ask L h = ⟨h, [], 5⟩ := by
  unfold ask
  have : L.find? (fun t => decide (t.key = h)) = none := by
    rw [List.find?_eq_none]
    intro x hx
    obtain ⟨j, hj⟩ := List.getElem?_of_mem hx
    have := hb j x hj
    simpa using this
  rw [this]
  rfl
theorem drewN_1 (w : World) (q : Nat) : (w.drewN q).drew = w.drewN (q + 1) := by
  have := World.drewN_drewN w q 1
  exact this
set_option maxRecDepth 100000 in
set_option maxHeartbeats 3200000 in
theorem ask_any {P : Nat → Prop} {w : World} {v : Value} {L : List Td} {dv : Nat → Value} (hL : Tls P w v L dv) {h : List Nat} (hh : IsH h) :
    Calls Tryz.prog 99 #[v, .agg (bv h).toArray] w fun e w' => ∃ u, e = .returned (.tuple #[u, .int .i64 (ask L h).err]) ∧ Vf P w' u (ask L h).data ∧ Below w.heap.size w w' := by
  have on := all_bv h
  obtain ⟨a, b, off, c, rfl, h2, h3⟩ := hL.sl
  have hlen := hL.len
  obtain ⟨W, eW⟩ : ∃ W, W = w.alloc (.cells (bv h).toArray 31) := ⟨_, rfl⟩
  have b0 : Below w.heap.size w W := by rw [eW]; exact below_alloc _ _
  have gh : W.rangeAt w.heap.size 0 (bv h) := by rw [eW]; exact rng_new _ _ _
  have HW : Hid (IsH h ∧ (∀ q, (W.drewN q).rangeAt w.heap.size 0 (bv h)) ∧ Below w.heap.size w W ∧ Tls P w (.slice a L.length c) L dv) := ⟨hh, fun q => gh, b0, hL⟩
  have HT : Hid (∀ (q k : Nat) (t : Td), L[k]? = some t → (W.drewN q).rangeAt b (off + k * 34) (bv t.key) ∧ (W.drewN q).cell? ⟨b, off + k * 34 + 32, none⟩ = some (dv k) ∧ (W.drewN q).cell? ⟨b, off + k * 34 + 33, none⟩ = some (.int .i64 t.err)) := fun q k t ht => tdc_at (hL.key t (List.mem_of_getElem? ht)).1 (rng_keep (h3 k t ht) (below_drewN b0 q))
  obtain ⟨n, en⟩ : ∃ n, n = L.length := ⟨_, rfl⟩
  have HA : Hid (0 < n → a = some ⟨b, off, none⟩) := fun q => (h2 (by omega)).1
  rw [← en] at HW hlen ⊢
  have HN : Hid (n = L.length) := en
  clear hL hh h2 h3 b0 gh en
  go_enter Tryz.func99, Tryz.ntmps99
  go_wp2_with fail
  rw [← eW]
  clear eW
  go_loopg [6] n (fun g i wr => ∃ k : Nat, k ≤ n ∧ g = n - k ∧ i = .int .i64 k ∧ (∀ j x, j < k → L[j]? = some x → x.key ≠ h) ∧ ∃ q, wr = W.drewN q)
  case atStart => exact ⟨0, Nat.zero_le _, rfl, rfl, fun j x hj => absurd hj (by omega), 0, rfl⟩
  case round =>
    obtain ⟨k, hk, rfl, rfl, hno, q, rfl⟩ := hrel
    have HNO : Hid (∀ j x, j < k → L[j]? = some x → x.key ≠ h) := hno
    clear hno
    by_cases hkn : k < n
    · obtain rfl := HA.out (by omega)
      have i1 : (k : Int) < (n : Int) := by omega
      obtain ⟨t, ht⟩ : ∃ t, L[k]? = some t := ⟨_, List.getElem?_eq_getElem (by rw [← HN.out]; exact hkn)⟩
      have HK : Hid (L[k]? = some t ∧ IsH t.key) := ⟨ht, HW.out.2.2.2.key t (List.mem_of_getElem? ht)⟩
      clear ht
      by_cases he : t.key = h
      · have HE : Hid (t.key = h) := he
        have HD : Hid (decide (t.key = h) = true) := decide_eq_true he
        clear he
        go_wp2_with fail
        refine wp_region_held_drew (S := fun u => ∃ p, u = W.drewN p) (by kernel_rfl) (by exact ⟨q + 1, drewN_1 _ _⟩) ?_
        intro hS
        change wpAnyH _ _ _ _ _ 7 _ _ _
        refine wpAnyH_take (i := 0) (v := (.slice (some ⟨b, off, none⟩) n c)) (by simp only [List.getElem?_toArray, List.getElem?_cons_zero]; rfl) (by kernel_rfl) (by kernel_rfl) (by kernel_rfl) (by exact fun _ _ _ h => h) (Z.y_move (by kernel_rfl) _ rfl _ rfl) hS ?_
        try simp only [Act.put, List.setIfInBounds_toArray, List.set_cons_zero, List.set_cons_succ]
        refine wpAnyH_take (i := 1) (v := (.int .i64 (k : Nat))) (by simp only [List.getElem?_toArray, List.getElem?_cons_zero, List.getElem?_cons_succ]; rfl) (by kernel_rfl) (by kernel_rfl) (by kernel_rfl) (by exact fun _ _ _ h => h) (Z.y_move (by kernel_rfl) _ rfl _ rfl) hS ?_
        try simp only [Act.put, List.setIfInBounds_toArray, List.set_cons_zero, List.set_cons_succ]
        refine wpAnyH_take (i := 2) (v := (.pointer (some ⟨b, off + k * 34, none⟩))) (by simp only [List.getElem?_toArray, List.getElem?_cons_zero, List.getElem?_cons_succ]; rfl) (by kernel_rfl) (by kernel_rfl) (by kernel_rfl) (by exact fun _ _ _ h => h) (Z.y_i_tolds (by kernel_rfl) _ _ rfl _ _ _ _ _ rfl rfl hkn) hS ?_
        try simp only [Act.put, List.setIfInBounds_toArray, List.set_cons_zero, List.set_cons_succ]
        refine wpAnyH_take (i := 3) (v := (.pointer (some ⟨b, off + k * 34, none⟩))) (by simp only [List.getElem?_toArray, List.getElem?_cons_zero, List.getElem?_cons_succ]; rfl) (by kernel_rfl) (by kernel_rfl) (by kernel_rfl) (by exact fun _ _ _ h => h) (Z.y_f_Told0 (by kernel_rfl) _ rfl _ _ rfl) hS ?_
        try simp only [Act.put, List.setIfInBounds_toArray, List.set_cons_zero, List.set_cons_succ]
        refine wpAnyH_take (i := 4) (v := (.agg (bv t.key).toArray)) (by simp only [List.getElem?_toArray, List.getElem?_cons_zero, List.getElem?_cons_succ]; rfl) (by kernel_rfl) (by kernel_rfl) (by kernel_rfl) (by exact fun _ _ _ h => h) (Z.y_s_Hash (by kernel_rfl) _ rfl _ _ rfl t.key HK.out.2.1 (fun u hs => by obtain ⟨p, rfl⟩ := hs; exact (HT.out p k t HK.out.1).1)) hS ?_
        try simp only [Act.put, List.setIfInBounds_toArray, List.set_cons_zero, List.set_cons_succ]
        refine wpAnyH_take (i := 5) (v := (.agg (bv h).toArray)) (by simp only [List.getElem?_toArray, List.getElem?_cons_zero, List.getElem?_cons_succ]; rfl) (by kernel_rfl) (by kernel_rfl) (by kernel_rfl) (by exact fun _ _ _ h => h) (Z.y_s_Hash (by kernel_rfl) _ rfl _ _ rfl h HW.out.1.1 (fun u hs => by obtain ⟨p, rfl⟩ := hs; exact HW.out.2.1 p)) hS ?_
        try simp only [Act.put, List.setIfInBounds_toArray, List.set_cons_zero, List.set_cons_succ]
        refine wpAnyH_take (i := 6) (v := (.bool true)) (by simp only [List.getElem?_toArray, List.getElem?_cons_zero, List.getElem?_cons_succ]; rfl) (by kernel_rfl) (by kernel_rfl) (by kernel_rfl) (by exact fun _ _ _ h => h) (Z.y_eqlH (by kernel_rfl) _ _ rfl _ _ rfl rfl HK.out.2.1 HK.out.2.2 HW.out.1.1 HW.out.1.2 true HD.out) hS ?_
        try simp only [Act.put, List.setIfInBounds_toArray, List.set_cons_zero, List.set_cons_succ]
        refine wpAnyH_done (by kernel_rfl) ?_ _
        clear hS
        go_wp2_with fail
        refine wp_region_held_drew (S := fun u => ∃ p, u = W.drewN p) (by kernel_rfl) (by exact ⟨q + 2, by rw [drewN_1, drewN_1]⟩) ?_
        intro hS
        change wpAnyH _ _ _ _ _ 12 _ _ _
        refine wpAnyH_take (i := 0) (v := (.slice (some ⟨b, off, none⟩) n c)) (by simp only [List.getElem?_toArray, List.getElem?_cons_zero]; rfl) (by kernel_rfl) (by kernel_rfl) (by kernel_rfl) (by exact fun _ _ _ h => h) (Z.y_move (by kernel_rfl) _ rfl _ rfl) hS ?_
        try simp only [Act.put, List.setIfInBounds_toArray, List.set_cons_zero, List.set_cons_succ]
        refine wpAnyH_take (i := 1) (v := (.int .i64 (k : Nat))) (by simp only [List.getElem?_toArray, List.getElem?_cons_zero, List.getElem?_cons_succ]; rfl) (by kernel_rfl) (by kernel_rfl) (by kernel_rfl) (by exact fun _ _ _ h => h) (Z.y_move (by kernel_rfl) _ rfl _ rfl) hS ?_
        try simp only [Act.put, List.setIfInBounds_toArray, List.set_cons_zero, List.set_cons_succ]
        refine wpAnyH_take (i := 2) (v := (.pointer (some ⟨b, off + k * 34, none⟩))) (by simp only [List.getElem?_toArray, List.getElem?_cons_zero, List.getElem?_cons_succ]; rfl) (by kernel_rfl) (by kernel_rfl) (by kernel_rfl) (by exact fun _ _ _ h => h) (Z.y_i_tolds (by kernel_rfl) _ _ rfl _ _ _ _ _ rfl rfl hkn) hS ?_
        try simp only [Act.put, List.setIfInBounds_toArray, List.set_cons_zero, List.set_cons_succ]
        refine wpAnyH_take (i := 3) (v := (.pointer (some ⟨b, off + k * 34 + 32, none⟩))) (by simp only [List.getElem?_toArray, List.getElem?_cons_zero, List.getElem?_cons_succ]; rfl) (by kernel_rfl) (by kernel_rfl) (by kernel_rfl) (by exact fun _ _ _ h => h) (Z.y_f_Told1 (by kernel_rfl) _ rfl _ _ rfl) hS ?_
        try simp only [Act.put, List.setIfInBounds_toArray, List.set_cons_zero, List.set_cons_succ]
        refine wpAnyH_take (i := 4) (v := (dv k)) (by simp only [List.getElem?_toArray, List.getElem?_cons_zero, List.getElem?_cons_succ]; rfl) (by kernel_rfl) (by kernel_rfl) (by kernel_rfl) (by exact fun _ _ _ h => h) (Z.y_l_byt (by kernel_rfl) _ rfl _ _ rfl _ (fun u hs => by obtain ⟨p, rfl⟩ := hs; exact (HT.out p k t HK.out.1).2.1)) hS ?_
        try simp only [Act.put, List.setIfInBounds_toArray, List.set_cons_zero, List.set_cons_succ]
        refine wpAnyH_take (i := 5) (v := (.slice (some ⟨b, off, none⟩) n c)) (by simp only [List.getElem?_toArray, List.getElem?_cons_zero, List.getElem?_cons_succ]; rfl) (by kernel_rfl) (by kernel_rfl) (by kernel_rfl) (by exact fun _ _ _ h => h) (Z.y_move (by kernel_rfl) _ rfl _ rfl) hS ?_
        try simp only [Act.put, List.setIfInBounds_toArray, List.set_cons_zero, List.set_cons_succ]
        refine wpAnyH_take (i := 6) (v := (.int .i64 (k : Nat))) (by simp only [List.getElem?_toArray, List.getElem?_cons_zero, List.getElem?_cons_succ]; rfl) (by kernel_rfl) (by kernel_rfl) (by kernel_rfl) (by exact fun _ _ _ h => h) (Z.y_move (by kernel_rfl) _ rfl _ rfl) hS ?_
        try simp only [Act.put, List.setIfInBounds_toArray, List.set_cons_zero, List.set_cons_succ]
        refine wpAnyH_take (i := 7) (v := (.pointer (some ⟨b, off + k * 34, none⟩))) (by simp only [List.getElem?_toArray, List.getElem?_cons_zero, List.getElem?_cons_succ]; rfl) (by kernel_rfl) (by kernel_rfl) (by kernel_rfl) (by exact fun _ _ _ h => h) (Z.y_i_tolds (by kernel_rfl) _ _ rfl _ _ _ _ _ rfl rfl hkn) hS ?_
        try simp only [Act.put, List.setIfInBounds_toArray, List.set_cons_zero, List.set_cons_succ]
        refine wpAnyH_take (i := 8) (v := (.pointer (some ⟨b, off + k * 34 + 33, none⟩))) (by simp only [List.getElem?_toArray, List.getElem?_cons_zero, List.getElem?_cons_succ]; rfl) (by kernel_rfl) (by kernel_rfl) (by kernel_rfl) (by exact fun _ _ _ h => h) (Z.y_f_Told2 (by kernel_rfl) _ rfl _ _ rfl) hS ?_
        try simp only [Act.put, List.setIfInBounds_toArray, List.set_cons_zero, List.set_cons_succ]
        refine wpAnyH_take (i := 9) (v := (.int .i64 t.err)) (by simp only [List.getElem?_toArray, List.getElem?_cons_zero, List.getElem?_cons_succ]; rfl) (by kernel_rfl) (by kernel_rfl) (by kernel_rfl) (by exact fun _ _ _ h => h) (Z.y_l_int (by kernel_rfl) _ rfl _ _ rfl _ (fun u hs => by obtain ⟨p, rfl⟩ := hs; exact (HT.out p k t HK.out.1).2.2)) hS ?_
        try simp only [Act.put, List.setIfInBounds_toArray, List.set_cons_zero, List.set_cons_succ]
        refine wpAnyH_take (i := 10) (v := (dv k)) (by simp only [List.getElem?_toArray, List.getElem?_cons_zero, List.getElem?_cons_succ]; rfl) (by kernel_rfl) (by kernel_rfl) (by kernel_rfl) (by exact fun _ _ _ h => h) (Z.y_assign (by kernel_rfl) _ rfl _ rfl) hS ?_
        try simp only [Act.put, List.setIfInBounds_toArray, List.set_cons_zero, List.set_cons_succ]
        refine wpAnyH_take (i := 11) (v := (.int .i64 t.err)) (by simp only [List.getElem?_toArray, List.getElem?_cons_zero, List.getElem?_cons_succ]; rfl) (by kernel_rfl) (by kernel_rfl) (by kernel_rfl) (by exact fun _ _ _ h => h) (Z.y_assign (by kernel_rfl) _ rfl _ rfl) hS ?_
        try simp only [Act.put, List.setIfInBounds_toArray, List.set_cons_zero, List.set_cons_succ]
        refine wpAnyH_done (by kernel_rfl) ?_ _
        clear hS
        go_wp2_with fail
        go_ret2
        rw [ask_hit HK.out.1 HE.out HNO.out]
        refine ⟨dv k, rfl, ?_, ?_⟩
        · exact vf_turn (G := fun _ => False) (HW.out.2.2.2.dat k t HK.out.1) (Turn.of_below (by rw [drewN_1, drewN_1]; exact below_drewN HW.out.2.2.1 _)) (fun _ _ _ z => z)
        · rw [drewN_1, drewN_1]; exact below_drewN HW.out.2.2.1 _
      · have HE : Hid (t.key ≠ h) := he
        have HD : Hid (decide (t.key = h) = false) := decide_eq_false he
        clear he
        go_wp2_with fail
        refine wp_region_held_drew (S := fun u => ∃ p, u = W.drewN p) (by kernel_rfl) (by exact ⟨q + 1, drewN_1 _ _⟩) ?_
        intro hS
        change wpAnyH _ _ _ _ _ 7 _ _ _
        refine wpAnyH_take (i := 0) (v := (.slice (some ⟨b, off, none⟩) n c)) (by simp only [List.getElem?_toArray, List.getElem?_cons_zero]; rfl) (by kernel_rfl) (by kernel_rfl) (by kernel_rfl) (by exact fun _ _ _ h => h) (Z.y_move (by kernel_rfl) _ rfl _ rfl) hS ?_
        try simp only [Act.put, List.setIfInBounds_toArray, List.set_cons_zero, List.set_cons_succ]
        refine wpAnyH_take (i := 1) (v := (.int .i64 (k : Nat))) (by simp only [List.getElem?_toArray, List.getElem?_cons_zero, List.getElem?_cons_succ]; rfl) (by kernel_rfl) (by kernel_rfl) (by kernel_rfl) (by exact fun _ _ _ h => h) (Z.y_move (by kernel_rfl) _ rfl _ rfl) hS ?_
        try simp only [Act.put, List.setIfInBounds_toArray, List.set_cons_zero, List.set_cons_succ]
        refine wpAnyH_take (i := 2) (v := (.pointer (some ⟨b, off + k * 34, none⟩))) (by simp only [List.getElem?_toArray, List.getElem?_cons_zero, List.getElem?_cons_succ]; rfl) (by kernel_rfl) (by kernel_rfl) (by kernel_rfl) (by exact fun _ _ _ h => h) (Z.y_i_tolds (by kernel_rfl) _ _ rfl _ _ _ _ _ rfl rfl hkn) hS ?_
        try simp only [Act.put, List.setIfInBounds_toArray, List.set_cons_zero, List.set_cons_succ]
        refine wpAnyH_take (i := 3) (v := (.pointer (some ⟨b, off + k * 34, none⟩))) (by simp only [List.getElem?_toArray, List.getElem?_cons_zero, List.getElem?_cons_succ]; rfl) (by kernel_rfl) (by kernel_rfl) (by kernel_rfl) (by exact fun _ _ _ h => h) (Z.y_f_Told0 (by kernel_rfl) _ rfl _ _ rfl) hS ?_
        try simp only [Act.put, List.setIfInBounds_toArray, List.set_cons_zero, List.set_cons_succ]
        refine wpAnyH_take (i := 4) (v := (.agg (bv t.key).toArray)) (by simp only [List.getElem?_toArray, List.getElem?_cons_zero, List.getElem?_cons_succ]; rfl) (by kernel_rfl) (by kernel_rfl) (by kernel_rfl) (by exact fun _ _ _ h => h) (Z.y_s_Hash (by kernel_rfl) _ rfl _ _ rfl t.key HK.out.2.1 (fun u hs => by obtain ⟨p, rfl⟩ := hs; exact (HT.out p k t HK.out.1).1)) hS ?_
        try simp only [Act.put, List.setIfInBounds_toArray, List.set_cons_zero, List.set_cons_succ]
        refine wpAnyH_take (i := 5) (v := (.agg (bv h).toArray)) (by simp only [List.getElem?_toArray, List.getElem?_cons_zero, List.getElem?_cons_succ]; rfl) (by kernel_rfl) (by kernel_rfl) (by kernel_rfl) (by exact fun _ _ _ h => h) (Z.y_s_Hash (by kernel_rfl) _ rfl _ _ rfl h HW.out.1.1 (fun u hs => by obtain ⟨p, rfl⟩ := hs; exact HW.out.2.1 p)) hS ?_
        try simp only [Act.put, List.setIfInBounds_toArray, List.set_cons_zero, List.set_cons_succ]
        refine wpAnyH_take (i := 6) (v := (.bool false)) (by simp only [List.getElem?_toArray, List.getElem?_cons_zero, List.getElem?_cons_succ]; rfl) (by kernel_rfl) (by kernel_rfl) (by kernel_rfl) (by exact fun _ _ _ h => h) (Z.y_eqlH (by kernel_rfl) _ _ rfl _ _ rfl rfl HK.out.2.1 HK.out.2.2 HW.out.1.1 HW.out.1.2 false HD.out) hS ?_
        try simp only [Act.put, List.setIfInBounds_toArray, List.set_cons_zero, List.set_cons_succ]
        refine wpAnyH_done (by kernel_rfl) ?_ _
        clear hS
        go_wp2_with fail
        go_roundg (n - (k + 1))
        case measure => omega
        case rel =>
          refine ⟨k + 1, by omega, rfl, by go_num, fun j x hj hx => ?_, q + 1, drewN_1 _ _⟩
          by_cases e : j = k
          · subst e
            rw [HK.out.1] at hx
            have := Option.some.inj hx
            subst this
            exact HE.out
          · exact HNO.out j x (by omega) hx
    · have : k = n := by omega
      subst this
      go_wp2_with fail
      go_ret2
      rw [ask_no (fun j x hx => HNO.out j x (by rw [HN.out]; exact (List.getElem?_eq_some_iff.1 hx).1) hx)]
      exact ⟨_, rfl, vf_nil _ _, below_drewN HW.out.2.2.1 _⟩
end Go.Proofs.YtepeolbbplodfaaGreatDoor
