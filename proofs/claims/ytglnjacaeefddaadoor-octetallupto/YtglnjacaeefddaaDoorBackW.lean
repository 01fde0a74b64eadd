import Derived.Test.YtglnjacaeefddaaDoorOrderW
import Derived.Deep.RegionHeld3
import Derived.Lib.QuietBelow
namespace Go.Proofs.YtglnjacaeefddaaDoor
open Go.RowKit

theorem join_nib (n : Nat) (A : Nat → Int) (h : ∀ i, i < n → 0 ≤ A i ∧ A i ≤ 255) : ∀ i, i < n → join (nib A) i = A i := by
  intro i hi
  have := h i hi
  unfold join nib
  rw [if_pos (by omega), if_neg (by omega), show 2 * i / 2 = i by omega, show (2 * i + 1) / 2 = i by omega]
  omega
theorem val_hx (n : Nat) (A : Nat → Int) (h : ∀ i, i < n → 0 ≤ A i ∧ A i ≤ 255) (i : Nat) (hi : i < 2 * n) : IsDig (sv (hexS n A) i) ∧ val (sv (hexS n A) i) = nib A i := by
  rw [sv_hexS n A h i hi]
  have b := nib_bd n A h i hi
  have := dig_val (nib A i).toNat (by omega)
  unfold hx
  refine ⟨this.1, ?_⟩
  rw [this.2]
  omega
theorem unh_hex (n : Nat) (A : Nat → Int) (h : ∀ i, i < n → 0 ≤ A i ∧ A i ≤ 255) : ∀ i, i < n → unh (hexS n A) i = A i := by
  intro i hi
  have e1 := (val_hx n A h (2 * i) (by omega)).2
  have e2 := (val_hx n A h (2 * i + 1) (by omega)).2
  have := join_nib n A h i hi
  unfold join at this
  unfold unh
  rw [e1, e2]
  exact this

theorem ahead_nib (n m : Nat) (A B : Nat → Int) (ha : ∀ i, i < n → 0 ≤ A i ∧ A i ≤ 255) (hb : ∀ i, i < m → 0 ≤ B i ∧ B i ≤ 255) (h : Ahead n m A B) : Ahead (2 * n) (2 * m) (nib A) (nib B) := by
  obtain ⟨k, h1, h2, h3, h4⟩ := h
  have same : ∀ i, i < 2 * k → nib A i = nib B i := fun i hi => by
    unfold nib
    rw [h3 (i / 2) (by omega)]
  rcases h4 with ⟨rfl, h4⟩ | ⟨h5, h6, h7⟩
  · exact ⟨2 * k, by omega, by omega, same, Or.inl ⟨rfl, by omega⟩⟩
  · have a1 := ha k h5
    have b1 := hb k h6
    have ea : nib A (2 * k) = A k / 16 := by unfold nib; rw [if_pos (by omega), show 2 * k / 2 = k by omega]
    have eb : nib B (2 * k) = B k / 16 := by unfold nib; rw [if_pos (by omega), show 2 * k / 2 = k by omega]
    have fa : nib A (2 * k + 1) = A k % 16 := by unfold nib; rw [if_neg (by omega), show (2 * k + 1) / 2 = k by omega]
    have fb : nib B (2 * k + 1) = B k % 16 := by unfold nib; rw [if_neg (by omega), show (2 * k + 1) / 2 = k by omega]
    by_cases e : A k / 16 = B k / 16
    · refine ⟨2 * k + 1, by omega, by omega, fun i hi => ?_, Or.inr ⟨by omega, by omega, by rw [fa, fb]; omega⟩⟩
      by_cases ei : i = 2 * k
      · subst ei; rw [ea, eb, e]
      · exact same i (by omega)
    · exact ⟨2 * k, by omega, by omega, same, Or.inr ⟨by omega, by omega, by rw [ea, eb]; omega⟩⟩
theorem cmp_nib (n m : Nat) (A B : Nat → Int) (ha : ∀ i, i < n → 0 ≤ A i ∧ A i ≤ 255) (hb : ∀ i, i < m → 0 ≤ B i ∧ B i ≤ 255) : cmp (2 * n) (2 * m) (nib A) (nib B) = cmp n m A B := by
  rcases cmp_range n m A B with h | h | h
  · rw [h, (cmp_neg_iff _ _ _ _).2 (ahead_nib n m A B ha hb ((cmp_neg_iff _ _ _ _).1 h))]
  · obtain ⟨rfl, e⟩ := (cmp_zero_iff _ _ _ _).1 h
    rw [h, (cmp_zero_iff _ _ _ _).2 ⟨rfl, fun i hi => by unfold nib; rw [e (i / 2) (by omega)]⟩]
  · have := (cmp_neg_iff _ _ _ _).2 (ahead_nib m n B A hb ha (cmp_pos_of _ _ _ _ h))
    have := cmp_anti (2 * m) (2 * n) (nib B) (nib A)
    omega

theorem nib_unh (s : ByteArray) (m : Nat) (hs : s.size = 2 * m) (hd : ∀ i, i < s.size → IsDig (sv s i)) (i : Nat) (hi : i < 2 * m) : dig (nib (unh s) i).toNat = sv s i := by
  have d1 := val_dig _ (hd (2 * (i / 2)) (by omega))
  have d2 := val_dig _ (hd (2 * (i / 2) + 1) (by omega))
  by_cases e : i % 2 = 0
  · have ei : 2 * (i / 2) = i := by omega
    unfold nib unh
    rw [if_pos e, show (16 * val (sv s (2 * (i / 2))) + val (sv s (2 * (i / 2) + 1))) / 16 = val (sv s (2 * (i / 2))) by omega, ei]
    rw [ei] at d1
    exact d1.2.2
  · have ei : 2 * (i / 2) + 1 = i := by omega
    unfold nib unh
    rw [if_neg e, show (16 * val (sv s (2 * (i / 2))) + val (sv s (2 * (i / 2) + 1))) % 16 = val (sv s (2 * (i / 2) + 1)) by omega, ei]
    rw [ei] at d2
    exact d2.2.2
theorem unh_bd (s : ByteArray) (m : Nat) (hs : s.size = 2 * m) (hd : ∀ i, i < s.size → IsDig (sv s i)) : ∀ i, i < m → 0 ≤ unh s i ∧ unh s i ≤ 255 := by
  intro i hi
  have d1 := val_dig _ (hd (2 * i) (by omega))
  have d2 := val_dig _ (hd (2 * i + 1) (by omega))
  unfold unh
  omega
theorem sv_ext (s t : ByteArray) (hs : s.size = t.size) (h : ∀ i, i < s.size → sv s i = sv t i) : s = t := by
  obtain ⟨s⟩ := s
  obtain ⟨t⟩ := t
  congr 1
  have hs' : s.size = t.size := hs
  apply Array.ext hs'
  intro i h1 h2
  have e := h i h1
  unfold sv at e
  simp only [Array.getElem?_eq_getElem h1, Array.getElem?_eq_getElem h2, Option.getD_some] at e
  exact UInt8.toNat_inj.1 (by omega)
theorem hexS_unh (s : ByteArray) (m : Nat) (hs : s.size = 2 * m) (hd : ∀ i, i < s.size → IsDig (sv s i)) : hexS m (unh s) = s := by
  apply sv_ext
  · rw [hexS_size, hs]
  · intro i hi
    rw [hexS_size] at hi
    rw [sv_hexS m (unh s) (unh_bd s m hs hd) i hi]
    exact nib_unh s m hs hd i hi

/-- Compare, where the two are the same -/
theorem compare_zero (w : World) (a a' : Option Addr) (b off n c b' off' c' : Nat) (Z Y : Nat → Int) (h : View w a b off n Z) (h' : View w a' b' off' n Y) (e : ∀ i, i < n → Z i = Y i) :
    Calls Tryd.prog 12 #[.slice a n c, .slice a' n c'] w fun e w' => e = .returned (.int .i64 0) ∧ Below w.heap.size w w' ∧ w'.heap.size = w.heap.size :=
  (compare_any w a a' b off n c b' off' n c' Z Y h h').mono fun e' w' ⟨he, hq⟩ => ⟨by rw [he, (cmp_zero_iff _ _ _ _).2 ⟨rfl, e⟩], below_of_drew hq⟩

set_option maxHeartbeats 1600000 in
set_option maxRecDepth 100000 in
theorem back_walk (w : World) (a b f t : Option Addr) (ab ao n ca bb bo m cb nf fc nt tc : Nat) (o : Bool) (s : ByteArray) (A B : Nat → Int) (hT : Tab w)
    (ha : View w a ab ao n A) (hb : View w b bb bo m B) (hn : n ≤ 140737488355328) (hm : m ≤ 140737488355328) (hs : s.size ≤ 281474976710656) :
    Calls Tryd.prog 4 #[.agg #[.slice a n ca, .slice b m cb, .slice f nf fc, .slice t nt tc, .bool o, .string s]] w fun e w' => e = .returned (.bool true) ∧ Below w.heap.size w w' := by
  have HT : Hid (∀ w', Below w.heap.size w w' → Tab w') := fun w' h => hT.below h hT.lt
  have HA : Hid (∀ w', Below w.heap.size w w' → View w' a ab ao n A) := fun w' h => ha.below h
  have HB : Hid (∀ w', Below w.heap.size w w' → View w' b bb bo m B) := fun w' h => hb.below h
  have bdA : Hid (∀ i, i < n → 0 ≤ A i ∧ A i ≤ 255) := ha.bd
  have bdB : Hid (∀ i, i < m → 0 ≤ B i ∧ B i ≤ 255) := hb.bd
  clear hT ha hb
  obtain ⟨w1, hw1⟩ : ∃ w1, w1 = w.alloc (.cells #[.slice a n ca, .slice b m cb, .slice f nf fc, .slice t nt tc, .bool o, .string s] 31) := ⟨_, rfl⟩
  have b1 : Below w.heap.size w w1 := by rw [hw1]; exact (Below.refl _ _).alloc (Nat.le_refl _) _
  have z1 : w1.heap.size = w.heap.size + 1 := by rw [hw1]; simp
  have C0 : Hid (∀ w', Below w1.heap.size w1 w' → w'.cell? ⟨w.heap.size, 0, none⟩ = some (.slice a n ca) ∧ w'.cell? ⟨w.heap.size, 1, none⟩ = some (.slice b m cb) ∧ w'.cell? ⟨w.heap.size, 5, none⟩ = some (.string s)) := fun w' h => by
    refine ⟨?_, ?_, ?_⟩ <;> (rw [h.cell (by show w.heap.size < _; omega), hw1, World.cell?_alloc_new]; rfl)
  have HW1 : Hid (w1 = w.alloc (.cells #[.slice a n ca, .slice b m cb, .slice f nf fc, .slice t nt tc, .bool o, .string s] 31)) := hw1
  have Z1 : Hid (w1.heap.size = w.heap.size + 1) := z1
  clear hw1 z1
  go_enter Tryd.func4, Tryd.ntmps4
  go_wp2_with fail
  rw [← HW1.out]
  refine (nibbles_any w1 _ _ _ n _ _ (HA.out _ b1) hn).mono ?_
  rintro e w2 ⟨rfl, h2⟩
  rw [Z1.out]
  have e2 := h2.below
  have b2 : Below w.heap.size w w2 := b1.trans (e2.mono b1.size)
  have v2 := h2.view (fun i hi => by have := nib_bd n A bdA.out i hi; omega) (by omega)
  rw [Z1.out] at v2
  clear h2
  obtain ⟨c0, c1, c5⟩ := C0.out _ e2
  go_wp2_with fail
  refine (bytes_even w2 _ _ _ n _ _ _ v2 rfl).mono ?_
  rintro e w3 (⟨-, rfl, h3⟩ | ⟨⟨i, hi, hd⟩, -⟩)
  · have e3 := e2.trans (h3.below.mono e2.size)
    have b3 := b2.trans (h3.below.mono b2.size)
    have v3 := (h3.view (fun i hi => by rw [join_nib n A bdA.out i hi]; exact bdA.out i hi) (by omega)).congr (join_nib n A bdA.out)
    have v23 := v2.below h3.below
    have z3 := h3.below.size
    clear h3 v2 c0 c1 c5
    obtain ⟨c0, c1, c5⟩ := C0.out _ e3
    go_wp2_with fail
    refine (hex_any w3 _ _ _ n _ _ (HA.out _ b3) hn (HT.out _ b3)).mono ?_
    rintro e w4 ⟨rfl, h4⟩
    have e4 := e3.trans (h4.mono e3.size)
    have b4 := b3.trans (h4.mono b3.size)
    have v4 := v3.below h4
    have v24 := v23.below h4
    clear h4 v3 v23 c0 c1 c5
    go_wp2_with fail
    refine (unhex_even w4 (hexS n A) n (HT.out _ b4) (by rw [hexS_size]; omega) (hexS_size n A)).mono ?_
    rintro e w5 (⟨-, rfl, h5⟩ | ⟨⟨i, hi, hd⟩, -⟩)
    · have e5 := e4.trans (h5.below.mono e4.size)
      have b5 := b4.trans (h5.below.mono b4.size)
      have v5 := (h5.view (fun i hi => by rw [unh_hex n A bdA.out i hi]; exact bdA.out i hi) (by omega)).congr (unh_hex n A bdA.out)
      have v45 := v4.below h5.below
      have v25 := v24.below h5.below
      have q5 : ((hexS n A).size : Int) = 2 * (n : Int) := by rw [hexS_size]; omega
      clear h5 v4 v24
      obtain ⟨c0, c1, c5⟩ := C0.out _ e5
      go_wp2_with fail
      refine (compare_zero w5 _ _ _ _ n _ _ _ _ _ _ v45 (HA.out _ b5) (fun i _ => rfl)).mono ?_
      rintro e w6 ⟨rfl, h6, z6⟩
      have e6 := e5.trans (h6.mono e5.size)
      have b6 := b5.trans (h6.mono b5.size)
      have v6 := v5.below h6
      have v26 := v25.below h6
      clear h6 z6 v5 v45 v25 c0 c1 c5
      obtain ⟨c0, c1, c5⟩ := C0.out _ e6
      go_wp2_with fail
      refine (compare_zero w6 _ _ _ _ n _ _ _ _ _ _ v6 (HA.out _ b6) (fun i _ => rfl)).mono ?_
      rintro e w7 ⟨rfl, h7, z7⟩
      have e7 := e6.trans (h7.mono e6.size)
      have b7 := b6.trans (h7.mono b6.size)
      have v27 := v26.below h7
      clear h7 z7 v6 v26 c0 c1 c5
      go_wp2_with fail
      refine (fixed_any w7 (HT.out _ b7)).mono ?_
      rintro e w8 ⟨rfl, h8⟩
      have e8 := e7.trans (h8.mono e7.size)
      have b8 := b7.trans (h8.mono b7.size)
      have v28 := v27.below h8
      clear h8 v27 e2 e3 e4 e5 e6 e7 b2 b3 b4 b5 b6 b7 q5
      have KA : Hid (∀ w', Below w1.heap.size w1 w' → Calls Tryd.prog 10 #[.slice a n ca] w' fun e w'' => e = .returned (.slice (some ⟨w'.heap.size, 0, none⟩) (2 * n) (2 * n)) ∧ NewRow w' w'' (2 * n) (nib A)) := fun w' h =>
        nibbles_any w' _ _ _ n _ _ (HA.out _ (b1.trans (h.mono b1.size))) hn
      have KB : Hid (∀ w', Below w1.heap.size w1 w' → Calls Tryd.prog 10 #[.slice b m cb] w' fun e w'' => e = .returned (.slice (some ⟨w'.heap.size, 0, none⟩) (2 * m) (2 * m)) ∧ NewRow w' w'' (2 * m) (nib B)) := fun w' h =>
        nibbles_any w' _ _ _ m _ _ (HB.out _ (b1.trans (h.mono b1.size))) hm
      have KC : Hid (∀ w', Below w1.heap.size w1 w' → Calls Tryd.prog 12 #[.slice a n ca, .slice b m cb] w' fun e w'' => e = .returned (.int .i64 (cmp n m A B)) ∧ ∃ q, w'' = w'.drewN q) := fun w' h =>
        compare_any w' _ _ _ _ n _ _ _ m _ _ _ (HA.out _ (b1.trans (h.mono b1.size))) (HB.out _ (b1.trans (h.mono b1.size)))
      have KN : Hid (∀ W wa wb, NewRow W wa (2 * n) (nib A) → NewRow wa wb (2 * m) (nib B) → Calls Tryd.prog 12 #[.slice (some ⟨W.heap.size, 0, none⟩) (2 * n) (2 * n), .slice (some ⟨wa.heap.size, 0, none⟩) (2 * m) (2 * m)] wb fun e w'' => e = .returned (.int .i64 (cmp n m A B)) ∧ ∃ q, w'' = wb.drewN q) := fun W wa wb na nb => by
        have := compare_any wb _ _ _ _ (2 * n) (2 * n) _ _ (2 * m) (2 * m) _ _ ((na.view (fun i hi => by have := nib_bd n A bdA.out i hi; omega) (by omega)).below nb.below) (nb.view (fun i hi => by have := nib_bd m B bdB.out i hi; omega) (by omega))
        rwa [cmp_nib n m A B bdA.out bdB.out] at this
      go_wp2
      go_loopg [9] (2 * n) (fun g i wr => ∃ k : Nat, k ≤ 2 * n ∧ g = 2 * n - k ∧ i = .int .i64 k ∧ wr = w8)
      case atStart => exact ⟨0, Nat.zero_le _, rfl, rfl, rfl⟩
      case round =>
        obtain ⟨k, hk, rfl, rfl, rfl⟩ := hrel
        by_cases hkn : k < 2 * n
        · have g1 := v28.cell k hkn
          rw [Nat.zero_add] at g1
          obtain ⟨g2, g3⟩ := nib_bd n A bdA.out k hkn
          go_wp2
          go_roundg (2 * n - (k + 1))
          case measure => omega
          case rel => exact ⟨k + 1, by omega, rfl, by go_num, rfl⟩
        · clear v28
          obtain ⟨c0, c1, c5⟩ := C0.out _ e8
          go_wp2_with fail
          rcases Nat.mod_two_eq_zero_or_one s.size with hp | hp
          · obtain ⟨q, hq⟩ : ∃ q, s.size = 2 * q := ⟨s.size / 2, by omega⟩
            refine (unhex_even wr s q (HT.out _ b8) (by omega) hq).mono ?_
            rintro e w9 (⟨hd, rfl, h9⟩ | ⟨-, rfl, h9⟩)
            · have v9 := h9.view (unh_bd s q hq hd) (by omega)
              have e9 := e8.trans (h9.below.mono e8.size)
              have KH : Hid (∀ w', Below w9.heap.size w9 w' → Calls Tryd.prog 11 #[.slice (some ⟨wr.heap.size, 0, none⟩) q q] w' fun e w'' => e = .returned (.string s) ∧ Below w'.heap.size w' w'') := fun w' h => by
                have := hex_any w' _ _ _ q q _ (v9.below h) (by omega) (HT.out _ (b1.trans ((e9.trans (h.mono e9.size)).mono b1.size)))
                rwa [hexS_unh s q hq hd] at this
              clear h9 v9 hd c0 c1 c5
              obtain ⟨c0, c1, c5⟩ := C0.out _ e9
              go_wp2
              have cH := fun (d : Nat) (os : Array Obj) => Calls.regrown_of (KH.out _ (below_regrown w9 d os))
              have cS := fun (d : Nat) (os : Array Obj) => cell_regrown c5 d os
              refine wp_region_quiet_below (by kernel_rfl) (by kernel_rfl) ?_
              repeat (first | go_big_quiet_step (exact cH _ _) | quiet_step (exact cH _ _))
              refine wpQuiet_nil ?_
              intro w10 hw'
              obtain ⟨⟨dq, osq⟩, hw''⟩ := hw'
              have h10 := below_regrown w9 dq osq
              rw [← hw''] at h10
              clear hw'' cH cS KH
              have e10 := e9.trans (h10.mono e9.size)
              clear h10 e9 c0 c1 c5
              obtain ⟨c0, c1, c5⟩ := C0.out _ e10
              go_wp2
              go_region_held3 (fun w' => w'.cell? ⟨w.heap.size, 0, none⟩ = some (.slice a n ca) ∧ w'.cell? ⟨w.heap.size, 1, none⟩ = some (.slice b m cb))
                (first | (exact ⟨(C0.out _ (by assumption)).1, (C0.out _ (by assumption)).2.1⟩) | (exact ⟨(C0.out _ (Below.drew (by assumption))).1, (C0.out _ (Below.drew (by assumption))).2.1⟩))
                (first
                  | (go_at_call_of 10 (Value.slice a n ca); refine (KA.out _ ?_).mono ?_; exact Below.drew e10; rintro e wa ⟨rfl, na⟩; have ea : Below w1.heap.size w1 wa := (Below.drew e10).trans (na.below.mono e10.size))
                  | (go_at_call_of 10 (Value.slice b m cb); refine (KB.out _ ?_).mono ?_; assumption; rintro e wb ⟨rfl, nb⟩; have eb : Below w1.heap.size w1 wb := ea.trans (nb.below.mono ea.size))
                  | (go_at_call_of 12 (Value.slice a n ca); refine (KC.out _ ?_).mono ?_; assumption; rintro e wd ⟨rfl, hwd⟩; have ed : Below w1.heap.size w1 wd := ec.trans ((below_of_drew hwd).1.mono ec.size))
                  | (go_at_call 12; refine (KN.out _ _ _ na nb).mono ?_; rintro e wc ⟨rfl, hwc⟩; have ec : Below w1.heap.size w1 wc := eb.trans ((below_of_drew hwc).1.mono eb.size)))
              go_wp2
              go_ret
              exact ⟨rfl, b1.trans (ed.mono b1.size)⟩
            · have e9 := e8.trans (h9.mono e8.size)
              clear h9 c0 c1 c5
              obtain ⟨c0, c1, c5⟩ := C0.out _ e9
              go_wp2
              refine wp_region_quiet_below (by kernel_rfl) (by kernel_rfl) ?_
              repeat (first | go_big_quiet_step (fail) | quiet_step (fail))
              refine wpQuiet_nil ?_
              intro w10 hw'
              obtain ⟨⟨dq, osq⟩, hw''⟩ := hw'
              have h10 := below_regrown w9 dq osq
              rw [← hw''] at h10
              clear hw''
              have e10 := e9.trans (h10.mono e9.size)
              clear h10 e9 c0 c1 c5
              obtain ⟨c0, c1, c5⟩ := C0.out _ e10
              go_wp2
              go_region_held3 (fun w' => w'.cell? ⟨w.heap.size, 0, none⟩ = some (.slice a n ca) ∧ w'.cell? ⟨w.heap.size, 1, none⟩ = some (.slice b m cb))
                (first | (exact ⟨(C0.out _ (by assumption)).1, (C0.out _ (by assumption)).2.1⟩) | (exact ⟨(C0.out _ (Below.drew (by assumption))).1, (C0.out _ (Below.drew (by assumption))).2.1⟩))
                (first
                  | (go_at_call_of 10 (Value.slice a n ca); refine (KA.out _ ?_).mono ?_; exact Below.drew e10; rintro e wa ⟨rfl, na⟩; have ea : Below w1.heap.size w1 wa := (Below.drew e10).trans (na.below.mono e10.size))
                  | (go_at_call_of 10 (Value.slice b m cb); refine (KB.out _ ?_).mono ?_; assumption; rintro e wb ⟨rfl, nb⟩; have eb : Below w1.heap.size w1 wb := ea.trans (nb.below.mono ea.size))
                  | (go_at_call_of 12 (Value.slice a n ca); refine (KC.out _ ?_).mono ?_; assumption; rintro e wd ⟨rfl, hwd⟩; have ed : Below w1.heap.size w1 wd := ec.trans ((below_of_drew hwd).1.mono ec.size))
                  | (go_at_call 12; refine (KN.out _ _ _ na nb).mono ?_; rintro e wc ⟨rfl, hwc⟩; have ec : Below w1.heap.size w1 wc := eb.trans ((below_of_drew hwc).1.mono eb.size)))
              go_wp2
              go_ret
              exact ⟨rfl, b1.trans (ed.mono b1.size)⟩
          · refine (unhex_odd wr s (by omega) hp).mono ?_
            rintro e w9 ⟨rfl, rfl⟩
            have e9 := e8
            go_wp2
            refine wp_region_quiet_below (by kernel_rfl) (by kernel_rfl) ?_
            repeat (first | go_big_quiet_step (fail) | quiet_step (fail))
            refine wpQuiet_nil ?_
            intro w10 hw'
            obtain ⟨⟨dq, osq⟩, hw''⟩ := hw'
            have h10 := below_regrown w9 dq osq
            rw [← hw''] at h10
            clear hw''
            have e10 := e9.trans (h10.mono e9.size)
            clear h10 e9 c0 c1 c5
            obtain ⟨c0, c1, c5⟩ := C0.out _ e10
            go_wp2
            go_region_held3 (fun w' => w'.cell? ⟨w.heap.size, 0, none⟩ = some (.slice a n ca) ∧ w'.cell? ⟨w.heap.size, 1, none⟩ = some (.slice b m cb))
              (first | (exact ⟨(C0.out _ (by assumption)).1, (C0.out _ (by assumption)).2.1⟩) | (exact ⟨(C0.out _ (Below.drew (by assumption))).1, (C0.out _ (Below.drew (by assumption))).2.1⟩))
              (first
                | (go_at_call_of 10 (Value.slice a n ca); refine (KA.out _ ?_).mono ?_; exact Below.drew e10; rintro e wa ⟨rfl, na⟩; have ea : Below w1.heap.size w1 wa := (Below.drew e10).trans (na.below.mono e10.size))
                | (go_at_call_of 10 (Value.slice b m cb); refine (KB.out _ ?_).mono ?_; assumption; rintro e wb ⟨rfl, nb⟩; have eb : Below w1.heap.size w1 wb := ea.trans (nb.below.mono ea.size))
                | (go_at_call_of 12 (Value.slice a n ca); refine (KC.out _ ?_).mono ?_; assumption; rintro e wd ⟨rfl, hwd⟩; have ed : Below w1.heap.size w1 wd := ec.trans ((below_of_drew hwd).1.mono ec.size))
                | (go_at_call 12; refine (KN.out _ _ _ na nb).mono ?_; rintro e wc ⟨rfl, hwc⟩; have ec : Below w1.heap.size w1 wc := eb.trans ((below_of_drew hwc).1.mono eb.size)))
            go_wp2
            go_ret
            exact ⟨rfl, b1.trans (ed.mono b1.size)⟩
    · exact absurd (val_hx n A bdA.out i (by rw [hexS_size] at hi; exact hi)).1 hd
  · exact absurd (nib_bd n A bdA.out i hi).2 (by omega)

end Go.Proofs.YtglnjacaeefddaaDoor
