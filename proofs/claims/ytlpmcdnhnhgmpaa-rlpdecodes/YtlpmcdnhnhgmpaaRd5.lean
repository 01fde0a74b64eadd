/-
  cairnref05: read, Decode.
-/
import Derived.Test.YtlpmcdnhnhgmpaaRd4
namespace Go.Proofs.Ytlpmcdnhnhgmpaa
open Go.RowKit

theorem rread_any : ∀ (d : Nat), d ≤ 80 → ∀ (w : World) (a : Option Addr) (b off n c : Nat) (s : List Nat) (p e : Nat), Rp w a b off n c s e d → p ≤ e →
    Calls Try.prog 34 #[.slice a n c, .int .i64 p, .int .i64 e, .int .i64 ((80 - d : Nat) : Int)] w (RPost s d p e w) := by
  intro d
  induction d with
  | zero =>
    intro _ w a b off n c s p e h hpe
    by_cases h0 : p = e
    · exact rread_end w a b off n c s p e 0 h h0
    have hp : p < e := by omega
    have hx := gd_lt h.vp.ok p
    by_cases h1 : gd s p < 128
    · exact rread_one w a b off n c s p e 0 h hp h1
    by_cases h2 : gd s p < 192
    · have hg : gd s p = 128 + (gd s p - 128) := by omega
      generalize gd s p - 128 = m at hg
      have hm : m < 64 := by omega
      by_cases q1 : m < 56
      · by_cases q2 : e - (p + 1) < m
        · exact rread128_a w a b off n c s p e 0 m h hp hg hm q1 q2
        · by_cases q3 : m = 1
          · by_cases q4 : gd s (p + 1) < 128
            · exact rread128_g w a b off n c s p e 0 m h hp hg hm q3 q2 q4
            · exact rread128_h w a b off n c s p e 0 m h hp hg hm q3 q2 q4
          · exact rread128_i w a b off n c s p e 0 m h hp hg hm q1 q3 q2
      · by_cases q2 : e - (p + 1) < m - 55
        · exact rread128_b w a b off n c s p e 0 m h hp hg hm q1 q2
        · by_cases q3 : gd s (p + 1) = 0
          · exact rread128_c w a b off n c s p e 0 m h hp hg hm q1 q2 q3
          · by_cases q4 : 1048576 < num (cut s (p + 1) (p + 1 + (m - 55)))
            · exact rread128_d w a b off n c s p e 0 m h hp hg hm q1 q2 q3 q4
            · by_cases q5 : num (cut s (p + 1) (p + 1 + (m - 55))) < 56
              · exact rread128_e w a b off n c s p e 0 m h hp hg hm q1 q2 q3 q5
              · by_cases q6 : e - (p + 1 + (m - 55)) < num (cut s (p + 1) (p + 1 + (m - 55)))
                · exact rread128_f w a b off n c s p e 0 m h hp hg hm q1 q2 q3 q4 q5 q6
                · exact rread128_j w a b off n c s p e 0 m h hp hg hm q1 q2 q3 q4 q5 q6
    · have hg : gd s p = 192 + (gd s p - 192) := by omega
      exact rread_deep w a b off n c s p e 0 (gd s p - 192) h hp hg (by omega) rfl
  | succ d ih =>
    intro hd w a b off n c s p e h hpe
    have KI := ih (by omega)
    by_cases h0 : p = e
    · exact rread_end w a b off n c s p e (d + 1) h h0
    have hp : p < e := by omega
    have hx := gd_lt h.vp.ok p
    by_cases h1 : gd s p < 128
    · exact rread_one w a b off n c s p e (d + 1) h hp h1
    by_cases h2 : gd s p < 192
    · have hg : gd s p = 128 + (gd s p - 128) := by omega
      generalize gd s p - 128 = m at hg
      have hm : m < 64 := by omega
      by_cases q1 : m < 56
      · by_cases q2 : e - (p + 1) < m
        · exact rread128_a w a b off n c s p e (d + 1) m h hp hg hm q1 q2
        · by_cases q3 : m = 1
          · by_cases q4 : gd s (p + 1) < 128
            · exact rread128_g w a b off n c s p e (d + 1) m h hp hg hm q3 q2 q4
            · exact rread128_h w a b off n c s p e (d + 1) m h hp hg hm q3 q2 q4
          · exact rread128_i w a b off n c s p e (d + 1) m h hp hg hm q1 q3 q2
      · by_cases q2 : e - (p + 1) < m - 55
        · exact rread128_b w a b off n c s p e (d + 1) m h hp hg hm q1 q2
        · by_cases q3 : gd s (p + 1) = 0
          · exact rread128_c w a b off n c s p e (d + 1) m h hp hg hm q1 q2 q3
          · by_cases q4 : 1048576 < num (cut s (p + 1) (p + 1 + (m - 55)))
            · exact rread128_d w a b off n c s p e (d + 1) m h hp hg hm q1 q2 q3 q4
            · by_cases q5 : num (cut s (p + 1) (p + 1 + (m - 55))) < 56
              · exact rread128_e w a b off n c s p e (d + 1) m h hp hg hm q1 q2 q3 q5
              · by_cases q6 : e - (p + 1 + (m - 55)) < num (cut s (p + 1) (p + 1 + (m - 55)))
                · exact rread128_f w a b off n c s p e (d + 1) m h hp hg hm q1 q2 q3 q4 q5 q6
                · exact rread128_j w a b off n c s p e (d + 1) m h hp hg hm q1 q2 q3 q4 q5 q6
    · have hg : gd s p = 192 + (gd s p - 192) := by omega
      generalize gd s p - 192 = m at hg
      have hm : m < 64 := by omega
      have hd0 : d + 1 ≠ 0 := Nat.succ_ne_zero d
      by_cases q1 : m < 56
      · by_cases q2 : e - (p + 1) < m
        · exact rread192_a w a b off n c s p e (d + 1) m h hp hg hm hd0 q1 q2
        · exact rread192_k d KI w a b off n c s p e m h hp hg hm q1 q2
      · by_cases q2 : e - (p + 1) < m - 55
        · exact rread192_b w a b off n c s p e (d + 1) m h hp hg hm hd0 q1 q2
        · by_cases q3 : gd s (p + 1) = 0
          · exact rread192_c w a b off n c s p e (d + 1) m h hp hg hm hd0 q1 q2 q3
          · by_cases q4 : 1048576 < num (cut s (p + 1) (p + 1 + (m - 55)))
            · exact rread192_d w a b off n c s p e (d + 1) m h hp hg hm hd0 q1 q2 q3 q4
            · by_cases q5 : num (cut s (p + 1) (p + 1 + (m - 55))) < 56
              · exact rread192_e w a b off n c s p e (d + 1) m h hp hg hm hd0 q1 q2 q3 q5
              · by_cases q6 : e - (p + 1 + (m - 55)) < num (cut s (p + 1) (p + 1 + (m - 55)))
                · exact rread192_f w a b off n c s p e (d + 1) m h hp hg hm hd0 q1 q2 q3 q4 q5 q6
                · exact rread192_l d KI w a b off n c s p e m h hp hg hm q1 q2 q3 q4 q5 q6

/-- the whole of some bytes read -/
theorem rread_all (w : World) (a : Option Addr) (b off c : Nat) (s : List Nat) (hv : Vw w a b off s) (hc : s.length ≤ c) (hl : s.length ≤ 1048576) :
    Calls Try.prog 34 #[.slice a s.length c, .int .i64 0, .int .i64 s.length, .int .i64 0] w (RPost s 80 0 s.length w) := by
  have := rread_any 80 (Nat.le_refl _) w a b off s.length c s 0 s.length ⟨⟨hv, Nat.le_refl _, hc, hl, (vw_ok hv).2⟩, rfl, Nat.le_refl _, Nat.le_refl _⟩ (Nat.zero_le _)
  exact this

/-- WHAT THE REFERENCE's Decode ANSWERS -/
def RDec (s : List Nat) (w : World) (r : Ending) (w' : World) : Prop :=
  ∃ vb vi, r = .returned (.tuple #[iv (decX s).l vb vi, .int .i64 (decP s), .int .i64 (decE s)]) ∧ Og 34 [] w' w.heap.size w'.heap.size (decX s) vb vi ∧ Below w.heap.size w w'
theorem og_zero (w : World) (lo hi : Nat) : Og 34 [] w lo hi (.mk false [] []) (.slice none 0 0) (.slice none 0 0) :=
  .mk [] (fun _ => 0) (fun _ => 0) (sg_of_own (b := []) ⟨rfl, Or.inl ⟨rfl, rfl⟩⟩ (by simp) (by simp)) (fun q hq => by cases hq) ⟨rfl, Or.inl ⟨rfl, rfl⟩⟩ (fun q hq => by cases hq) rfl (by simp) (fun i hi => by simp at hi) (fun i hi => by simp at hi) (fun i x y hx => by simp at hx) (fun i x y hx => by simp at hx)

set_option maxRecDepth 100000 in
set_option maxHeartbeats 3200000 in
theorem rdecode_any (w : World) (a : Option Addr) (b off c : Nat) (s : List Nat) (hv : Vw w a b off s) (hc : s.length ≤ c) :
    Calls Try.prog 15 #[.slice a s.length c] w (RDec s w) := by
  have hl63 := hv.len
  by_cases hbig : 1048576 < s.length
  · have HD : Hid (decX s = .mk false [] [] ∧ decP s = 0 ∧ decE s = 54) := by
      have : dec s = .bad 0 54 := by unfold dec; rw [if_pos hbig]
      unfold decX decP decE
      rw [this]
      exact ⟨rfl, rfl, rfl⟩
    have i1 : (1048576 : Int) < (s.length : Int) := by omega
    generalize s.length = n at *
    clear hv hc
    go_enter Try.func15, Try.ntmps15
    go_wp2_with fail
    refine bodyPost_ret (res3 rfl _ _ w.heap.size _ _ _ rfl rfl rfl (loadVar34 (x := .bool false) (y := .slice none 0 0) (z := .slice none 0 0) (by simp) (by simp) (by simp))) rfl ?_
    exact ⟨_, _, by rw [HD.out.1, HD.out.2.1, HD.out.2.2]; rfl, by rw [HD.out.1]; exact og_zero _ _ _, below_alloc _ _⟩
  · obtain ⟨w1, ew1⟩ : ∃ w1, w1 = w.alloc (.cells #[.bool false, .slice none 0 0, .slice none 0 0] 34) := ⟨_, rfl⟩
    have b1 : Below w.heap.size w w1 := by rw [ew1]; exact below_alloc _ _
    have y1 : Bx w1 w.heap.size 34 (.bool false) (.slice none 0 0) (.slice none 0 0) := by rw [ew1]; exact heap_alloc_new _ _
    have K := rread_all w1 a b off c s (hv.below b1) hc (by omega)
    have HW : Hid (w1 = w.alloc (.cells #[.bool false, .slice none 0 0, .slice none 0 0] 34) ∧ Below w.heap.size w w1 ∧ Bx w1 w.heap.size 34 (.bool false) (.slice none 0 0) (.slice none 0 0)) := ⟨ew1, b1, y1⟩
    have hdec : dec s = match rd s 80 0 s.length with
        | .bad p e => .bad p e
        | .ok x e => if e < s.length then .bad e 51 else .ok x := by unfold dec; rw [if_neg hbig]; rfl
    have hrb := fun q cd => rd_bad (s := s) 80 0 s.length q cd
    have hro := fun x z => rd_ok (s := s) (vw_ok hv).2 80 0 s.length x z (Nat.le_refl _) (Nat.zero_le _)
    unfold RPost at K
    obtain ⟨n, en⟩ : ∃ n, n = s.length := ⟨_, rfl⟩
    rw [← en] at K hdec hbig hl63 hrb hro ⊢
    have i1 : ¬ (1048576 : Int) < (n : Int) := by omega
    clear hv hc ew1 b1 y1 en
    cases hrd : rd s 80 0 n with
    | bad q cd =>
      rw [hrd] at K hdec
      have HD : Hid (decX s = .mk false [] [] ∧ decP s = q ∧ decE s = cd) := by
        unfold decX decP decE
        rw [hdec]
        exact ⟨rfl, rfl, rfl⟩
      have hcd := hrb q cd hrd
      have icd : ¬ (cd : Int) = 0 := by omega
      have icdb : ((cd : Int) == 0) = false := by simpa using icd
      clear hdec hrb hro hrd
      go_enter Try.func15, Try.ntmps15
      go_wp2_with fail
      rw [← HW.out.1]
      refine K.mono ?_
      rintro r w2 ⟨b2, rfl⟩
      obtain ⟨w3, ew3⟩ : ∃ w3, w3 = w2.alloc (.cells #[.bool false, .slice none 0 0, .slice none 0 0, .int .i64 0, .int .i64 (q : Nat), .int .i64 (cd : Nat)] 75) := ⟨_, rfl⟩
      have b3 : Below w1.heap.size w1 w3 := ch b2 (by rw [ew3]; exact below_alloc _ _)
      have y3 : Bx w3 w.heap.size 34 (.bool false) (.slice none 0 0) (.slice none 0 0) := HW.out.2.2.keep (b3.block _ HW.out.2.2.lt)
      have r3 : B6 w3 w2.heap.size (.bool false) (.slice none 0 0) (.slice none 0 0) (.int .i64 0) (.int .i64 (q : Nat)) (.int .i64 (cd : Nat)) := by rw [ew3]; exact heap_alloc_new _ _
      have HZ : Hid (w3 = w2.alloc (.cells #[.bool false, .slice none 0 0, .slice none 0 0, .int .i64 0, .int .i64 (q : Nat), .int .i64 (cd : Nat)] 75) ∧ Below w.heap.size w w3 ∧ Bx w3 w.heap.size 34 (.bool false) (.slice none 0 0) (.slice none 0 0) ∧ B6 w3 w2.heap.size (.bool false) (.slice none 0 0) (.slice none 0 0) (.int .i64 0) (.int .i64 (q : Nat)) (.int .i64 (cd : Nat))) := ⟨ew3, ch HW.out.2.1 b3, y3, r3⟩
      clear K b2 ew3 b3 y3 r3
      go_wp2_with fail
      rw [← HZ.out.1]
      have HSS : Hid (∀ w', Below w3.heap.size w3 w' → (w'.cell? ⟨w2.heap.size, 4, none⟩ = some (.int .i64 (q : Nat)) ∧ w'.cell? ⟨w2.heap.size, 5, none⟩ = some (.int .i64 (cd : Nat)))) := fun w' k => by
        have r := HZ.out.2.2.2.keep (k.block _ HZ.out.2.2.2.lt)
        exact ⟨r.cell 4, r.cell 5⟩
      have hd3 : Below w3.heap.size w3 w3.drew := Below.drew (Below.refl _ _)
      have yd : Bx w3.drew w.heap.size 34 (.bool false) (.slice none 0 0) (.slice none 0 0) := HZ.out.2.2.1.keep (hd3.block _ HZ.out.2.2.1.lt)
      obtain ⟨d0, d1, d2, df⟩ := HZ.out.2.2.1.cells
      have df0 := df 0
      have df1 := df 1
      have df2 := df 2
      have HY3 : Hid ((set3 w3.drew w.heap.size (.bool false) (.slice none 0 0) (.slice none 0 0)).cell? ⟨w2.heap.size, 4, none⟩ = some (.int .i64 (q : Nat)) ∧ (set3 w3.drew w.heap.size (.bool false) (.slice none 0 0) (.slice none 0 0)).cell? ⟨w2.heap.size, 5, none⟩ = some (.int .i64 (cd : Nat)) ∧ Bx w3.drew w.heap.size 34 (.bool false) (.slice none 0 0) (.slice none 0 0)) := by
        have t3 := set3_turn w3.drew w.heap.size (.bool false) (.slice none 0 0) (.slice none 0 0)
        have hne : w2.heap.size ≠ w.heap.size := fun e => by
          have r := HZ.out.2.2.2
          rw [e] at r
          have y := HZ.out.2.2.1
          unfold Bx at y
          unfold B6 at r
          rw [r] at y
          injection y with y
          injection y with y _
          exact absurd (congrArg Array.size y) (by simp)
        have r := HZ.out.2.2.2.keep (hd3.block _ HZ.out.2.2.2.lt)
        exact ⟨(t3.cell (q := ⟨w2.heap.size, 4, none⟩) r.lt hne).trans (r.cell 4), (t3.cell (q := ⟨w2.heap.size, 5, none⟩) r.lt hne).trans (r.cell 5), yd⟩
      clear hd3 yd df
      go_region_held3 (fun w' => w'.cell? ⟨w2.heap.size, 4, none⟩ = some (.int .i64 (q : Nat)) ∧ w'.cell? ⟨w2.heap.size, 5, none⟩ = some (.int .i64 (cd : Nat)))
        (first | (exact HSS.out _ (Below.drew (Below.refl _ _))) | (exact ⟨HY3.out.1, HY3.out.2.1⟩))
        (fail)
      go_wp2_with fail
      obtain ⟨z0, z1, z2, -⟩ := (HY3.out.2.2.set3 (x' := .bool false) (y' := .slice none 0 0) (z' := .slice none 0 0)).cells
      refine bodyPost_ret (res3 rfl _ _ w.heap.size _ _ _ rfl rfl rfl (loadVar34 z0 z1 z2)) rfl ?_
      have t3 := set3_turn w3.drew w.heap.size (.bool false) (.slice none 0 0) (.slice none 0 0)
      exact ⟨_, _, by rw [HD.out.1, HD.out.2.1, HD.out.2.2]; rfl, by rw [HD.out.1]; exact og_zero _ _ _, (Below.drew HZ.out.2.1).trans (t3.below (fun i q => by omega) (Below.drew HZ.out.2.1).size)⟩
    | ok x z =>
      rw [hrd] at K hdec
      have hz := hro x z hrd
      have hzn : z ≤ n := hz.2.1
      clear hrb hro hrd hz
      dsimp only at hdec
      by_cases hlt : z < n
      · rw [if_pos hlt] at hdec
        have HD : Hid (decX s = .mk false [] [] ∧ decP s = z ∧ decE s = 51) := by
          unfold decX decP decE
          rw [hdec]
          exact ⟨rfl, rfl, rfl⟩
        have izn : (z : Int) < (n : Int) := by omega
        clear hdec
        go_enter Try.func15, Try.ntmps15
        go_wp2_with fail
        rw [← HW.out.1]
        refine K.mono ?_
        rintro r w2 ⟨b2, vb2, vi2, rfl, o2⟩
        obtain ⟨a1, n1, q1, a2, n2, q2, rfl, rfl⟩ := o2.lies.form
        obtain ⟨w3, ew3⟩ : ∃ w3, w3 = w2.alloc (.cells #[.bool x.l, .slice a1 n1 q1, .slice a2 n2 q2, .int .i64 (z : Nat), .int .i64 0, .int .i64 0] 75) := ⟨_, rfl⟩
        have b3 : Below w1.heap.size w1 w3 := ch b2 (by rw [ew3]; exact below_alloc _ _)
        have y3 : Bx w3 w.heap.size 34 (.bool false) (.slice none 0 0) (.slice none 0 0) := HW.out.2.2.keep (b3.block _ HW.out.2.2.lt)
        have r3 : B6 w3 w2.heap.size (.bool x.l) (.slice a1 n1 q1) (.slice a2 n2 q2) (.int .i64 (z : Nat)) (.int .i64 0) (.int .i64 0) := by rw [ew3]; exact heap_alloc_new _ _
        have HZ : Hid (w3 = w2.alloc (.cells #[.bool x.l, .slice a1 n1 q1, .slice a2 n2 q2, .int .i64 (z : Nat), .int .i64 0, .int .i64 0] 75) ∧ Below w.heap.size w w3 ∧ Bx w3 w.heap.size 34 (.bool false) (.slice none 0 0) (.slice none 0 0) ∧ B6 w3 w2.heap.size (.bool x.l) (.slice a1 n1 q1) (.slice a2 n2 q2) (.int .i64 (z : Nat)) (.int .i64 0) (.int .i64 0)) := ⟨ew3, ch HW.out.2.1 b3, y3, r3⟩
        clear K b2 ew3 b3 y3 r3 o2
        go_wp2_with fail
        rw [← HZ.out.1]
        have HSS : Hid (∀ w', Below w3.heap.size w3 w' → (w'.cell? ⟨w2.heap.size, 3, none⟩ = some (.int .i64 (z : Nat)))) := fun w' k => by
          have r := HZ.out.2.2.2.keep (k.block _ HZ.out.2.2.2.lt)
          exact r.cell 3
        have hd3 : Below w3.heap.size w3 w3.drew := Below.drew (Below.refl _ _)
        have yd : Bx w3.drew w.heap.size 34 (.bool false) (.slice none 0 0) (.slice none 0 0) := HZ.out.2.2.1.keep (hd3.block _ HZ.out.2.2.1.lt)
        obtain ⟨d0, d1, d2, df⟩ := HZ.out.2.2.1.cells
        have df0 := df 0
        have df1 := df 1
        have df2 := df 2
        have HY3 : Hid ((set3 w3.drew w.heap.size (.bool false) (.slice none 0 0) (.slice none 0 0)).cell? ⟨w2.heap.size, 3, none⟩ = some (.int .i64 (z : Nat)) ∧ Bx w3.drew w.heap.size 34 (.bool false) (.slice none 0 0) (.slice none 0 0)) := by
          have t3 := set3_turn w3.drew w.heap.size (.bool false) (.slice none 0 0) (.slice none 0 0)
          have hne : w2.heap.size ≠ w.heap.size := fun e => by
            have r := HZ.out.2.2.2
            rw [e] at r
            have y := HZ.out.2.2.1
            unfold Bx at y
            unfold B6 at r
            rw [r] at y
            injection y with y
            injection y with y _
            exact absurd (congrArg Array.size y) (by simp)
          have r := HZ.out.2.2.2.keep (hd3.block _ HZ.out.2.2.2.lt)
          exact ⟨(t3.cell (q := ⟨w2.heap.size, 3, none⟩) r.lt hne).trans (r.cell 3), yd⟩
        clear hd3 yd df
        go_region_held3 (fun w' => w'.cell? ⟨w2.heap.size, 3, none⟩ = some (.int .i64 (z : Nat)))
          (first | (exact HSS.out _ (Below.drew (Below.refl _ _))) | (exact HY3.out.1))
          (fail)
        go_wp2_with fail
        obtain ⟨z0, z1, z2, -⟩ := (HY3.out.2.set3 (x' := .bool false) (y' := .slice none 0 0) (z' := .slice none 0 0)).cells
        refine bodyPost_ret (res3 rfl _ _ w.heap.size _ _ _ rfl rfl rfl (loadVar34 z0 z1 z2)) rfl ?_
        have t3 := set3_turn w3.drew w.heap.size (.bool false) (.slice none 0 0) (.slice none 0 0)
        exact ⟨_, _, by rw [HD.out.1, HD.out.2.1, HD.out.2.2]; rfl, by rw [HD.out.1]; exact og_zero _ _ _, (Below.drew HZ.out.2.1).trans (t3.below (fun i q => by omega) (Below.drew HZ.out.2.1).size)⟩
      · rw [if_neg hlt] at hdec
        have HD : Hid (decX s = x ∧ decP s = 0 ∧ decE s = 0) := by
          unfold decX decP decE
          rw [hdec]
          exact ⟨rfl, rfl, rfl⟩
        have izn : ¬ (z : Int) < (n : Int) := by omega
        clear hdec
        go_enter Try.func15, Try.ntmps15
        go_wp2_with fail
        rw [← HW.out.1]
        refine K.mono ?_
        rintro r w2 ⟨b2, vb2, vi2, rfl, o2⟩
        obtain ⟨a1, n1, q1, a2, n2, q2, rfl, rfl⟩ := o2.lies.form
        obtain ⟨w3, ew3⟩ : ∃ w3, w3 = w2.alloc (.cells #[.bool x.l, .slice a1 n1 q1, .slice a2 n2 q2, .int .i64 (z : Nat), .int .i64 0, .int .i64 0] 75) := ⟨_, rfl⟩
        have bb : Below w2.heap.size w2 w3 := by rw [ew3]; exact below_alloc _ _
        have b3 : Below w1.heap.size w1 w3 := ch b2 bb
        have y3 : Bx w3 w.heap.size 34 (.bool false) (.slice none 0 0) (.slice none 0 0) := HW.out.2.2.keep (b3.block _ HW.out.2.2.lt)
        have HZ : Hid (w3 = w2.alloc (.cells #[.bool x.l, .slice a1 n1 q1, .slice a2 n2 q2, .int .i64 (z : Nat), .int .i64 0, .int .i64 0] 75) ∧ Below w.heap.size w w3 ∧ Bx w3 w.heap.size 34 (.bool false) (.slice none 0 0) (.slice none 0 0) ∧ Og 34 [] w3 w1.heap.size w2.heap.size x (.slice a1 n1 q1) (.slice a2 n2 q2) ∧ w1.heap.size = w.heap.size + 1 ∧ w2.heap.size ≤ w3.heap.size) := ⟨ew3, ch HW.out.2.1 b3, y3, o2.keep bb (Nat.le_refl _), by rw [HW.out.1]; simp, bb.size⟩
        obtain ⟨d0, d1, d2, df⟩ := y3.cells
        have df0 := df 0
        have df1 := df 1
        have df2 := df 2
        rw [ew3] at d0 d1 d2 df0 df1 df2
        clear K b2 ew3 b3 y3 o2 bb df
        go_wp2_with fail
        rw [← HZ.out.1]
        obtain ⟨z0, z1, z2, -⟩ := (HZ.out.2.2.1.set3 (x' := .bool x.l) (y' := .slice a1 n1 q1) (z' := .slice a2 n2 q2)).cells
        refine bodyPost_ret (res3 rfl _ _ w.heap.size _ _ _ rfl rfl rfl (loadVar34 z0 z1 z2)) rfl ?_
        have t3 := set3_turn w3 w.heap.size (.bool x.l) (.slice a1 n1 q1) (.slice a2 n2 q2)
        refine ⟨_, _, by rw [HD.out.1, HD.out.2.1, HD.out.2.2]; rfl, ?_, HZ.out.2.1.trans (t3.below (fun i q => by omega) HZ.out.2.1.size)⟩
        rw [HD.out.1]
        exact (HZ.out.2.2.2.1.same (fun k k1 k2 => t3.block k (by have := HZ.out.2.2.2.2.2; omega) (by have := HZ.out.2.2.2.2.1; omega))).wide (by have := HZ.out.2.2.2.2.1; omega) (by rw [set3_size]; exact HZ.out.2.2.2.2.2)
end Go.Proofs.Ytlpmcdnhnhgmpaa
