/-
  Number, the program's and the reference's.
-/
import Derived.Test.YtlpmcdnhnhgmpaaRsh
import Derived.Test.YtlpmcdnhnhgmpaaEnc
import Derived.Test.YtlpmcdnhnhgmpaaRes
namespace Go.Proofs.Ytlpmcdnhnhgmpaa
open Go.RowKit

/-- a number's bytes and its error -/
def nuB (n : Int) : List Nat := if n < 0 then [] else digs n.toNat
def nuE (n : Int) : Nat := if n < 0 then 2 else 0

set_option maxRecDepth 100000 in
set_option maxHeartbeats 1600000 in
theorem rnumber_any (w : World) (n : Int) (h1 : -9223372036854775808 ≤ n) (h2 : n ≤ 9223372036854775807) :
    Calls Try.prog 21 #[.int .i64 n] w fun e w' => ∃ v, e = .returned (.tuple #[iv false v (.slice none 0 0), .int .i64 (nuE n)]) ∧ Str w' (fun i => w.heap.size ≤ i) v (nuB n) ∧ Below w.heap.size w w' := by
  by_cases h0 : n < 0
  · have HE : Hid (nuE n = 2 ∧ nuB n = []) := by unfold nuE nuB; rw [if_pos h0, if_pos h0]; exact ⟨rfl, rfl⟩
    go_enter Try.func21, Try.ntmps21
    go_wp2_with fail
    refine bodyPost_ret (res2 rfl _ _ w.heap.size _ _ rfl rfl (loadVar34 (x := .bool false) (y := .slice none 0 0) (z := .slice none 0 0) (by simp) (by simp) (by simp))) rfl ?_
    exact ⟨_, by rw [HE.out.1]; rfl, by rw [HE.out.2]; exact str_nil _ _, below_alloc _ _⟩
  · have HE : Hid (nuE n = 0 ∧ nuB n = digs n.toNat) := by unfold nuE nuB; rw [if_neg h0, if_neg h0]; exact ⟨rfl, rfl⟩
    obtain ⟨m, rfl⟩ : ∃ m : Nat, n = m := ⟨n.toNat, by omega⟩
    rw [show ((m : Int)).toNat = m by omega] at HE
    obtain ⟨w1, ew1⟩ : ∃ w1, w1 = w.alloc (.cells #[.bool false, .slice none 0 0, .slice none 0 0] 34) := ⟨_, rfl⟩
    have HW : Hid (w1 = w.alloc (.cells #[.bool false, .slice none 0 0, .slice none 0 0] 34) ∧ Below w.heap.size w w1) := ⟨ew1, by rw [ew1]; exact below_alloc _ _⟩
    have HBX : Hid (∀ wr, Below w1.heap.size w1 wr → (wr.cell? ⟨w.heap.size, 0, none⟩ = some (.bool false) ∧ wr.cell? ⟨w.heap.size, 1, none⟩ = some (.slice none 0 0) ∧ wr.cell? ⟨w.heap.size, 2, none⟩ = some (.slice none 0 0)) ∧ ∀ j, wr.frozen? ⟨w.heap.size, j, none⟩ = false) := fun wr h => by
      rw [ew1] at h
      refine ⟨box_keep h, fun j => ?_⟩
      rw [h.frozen (p := ⟨w.heap.size, j, none⟩) (by simp)]
      simp
    have K := short_any w1 m (by omega)
    have HL : Hid ((digs m).length ≤ 8 ∧ ∀ x ∈ digs m, x < 256) := ⟨digs_len_le (by omega), digs_lt m⟩
    obtain ⟨t, et⟩ : ∃ t, t = digs m := ⟨_, rfl⟩
    rw [← et] at K HL HE
    clear ew1 et
    go_enter Try.func21, Try.ntmps21
    go_wp2_with fail
    rw [← HW.out.1]
    refine K.mono ?_
    rintro e w2 ⟨v, rfl, ho, hb⟩
    obtain ⟨⟨x0, x1, x2⟩, fz⟩ := HBX.out w2 hb
    have f0 := fz 0
    have f1 := fz 1
    have f2 := fz 2
    obtain ⟨av, cv, ev⟩ := own_slice ho
    subst ev
    obtain ⟨k, ek⟩ : ∃ k, k = t.length := ⟨_, rfl⟩
    rw [← ek] at ho ⊢
    have HO : Hid (w2.ownsRow w1.heap.size 5 1 (.slice av k cv) k (bv t) ∧ Below w1.heap.size w1 w2 ∧ w1.heap.size = w.heap.size + 1 ∧ k = t.length) := ⟨ho, hb, by rw [HW.out.1]; simp, ek⟩
    have HX : Hid (w2.cell? ⟨w.heap.size, 0, none⟩ = some (.bool false) ∧ w2.cell? ⟨w.heap.size, 1, none⟩ = some (.slice none 0 0) ∧ w2.cell? ⟨w.heap.size, 2, none⟩ = some (.slice none 0 0)) := ⟨x0, x1, x2⟩
    clear K ho hb fz ek
    go_wp2_with fail
    obtain ⟨q0, q1, q2⟩ := set3_cells (x := .bool false) (y := .slice av k cv) (z := .slice none 0 0) HX.out.1 HX.out.2.1 HX.out.2.2
    refine bodyPost_ret (res2 rfl _ _ w.heap.size _ _ rfl rfl (loadVar34 (x := .bool false) (y := .slice av k cv) (z := .slice none 0 0) q0 q1 q2)) rfl ?_
    have t3 := set3_turn w2 w.heap.size (.bool false) (.slice av k cv) (.slice none 0 0)
    refine ⟨_, by rw [HE.out.1]; rfl, ?_, ?_⟩
    · rw [HE.out.2]
      refine ⟨?_, fun g hg => ?_, ⟨by have := HL.out.1; omega, HL.out.2⟩⟩
      · rw [← HO.out.2.2.2]
        exact own_base (own_turn HO.out.1 t3 (fun g hg z => by have := (HO.out.1.lt g hg).1; have := HO.out.2.2.1; omega))
      · have hg' : (Value.slice av k cv).ownBlock = some g := hg
        have := (HO.out.1.lt g hg').1
        have := HO.out.2.2.1
        omega
    · exact (ch HW.out.2 HO.out.2.1).trans (t3.below (fun i q => by omega) (by have := HW.out.2.size; have := HO.out.2.1.size; omega))
set_option maxRecDepth 100000 in
set_option maxHeartbeats 1600000 in
theorem number_any (w : World) (n : Int) (h1 : -9223372036854775808 ≤ n) (h2 : n ≤ 9223372036854775807) :
    Calls Try.prog 23 #[.int .i64 n] w fun e w' => ∃ v, e = .returned (.tuple #[iv false v (.slice none 0 0), .int .i64 (nuE n)]) ∧ Str w' (fun i => w.heap.size ≤ i) v (nuB n) ∧ Below w.heap.size w w' := by
  by_cases h0 : n < 0
  · have HE : Hid (nuE n = 2 ∧ nuB n = []) := by unfold nuE nuB; rw [if_pos h0, if_pos h0]; exact ⟨rfl, rfl⟩
    go_enter Try.func23, Try.ntmps23
    go_wp2_with fail
    refine bodyPost_ret (res2 rfl _ _ w.heap.size _ _ rfl rfl (loadVar25 (x := .bool false) (y := .slice none 0 0) (z := .slice none 0 0) (by simp) (by simp) (by simp))) rfl ?_
    exact ⟨_, by rw [HE.out.1]; rfl, by rw [HE.out.2]; exact str_nil _ _, below_alloc _ _⟩
  · have HE : Hid (nuE n = 0 ∧ nuB n = digs n.toNat) := by unfold nuE nuB; rw [if_neg h0, if_neg h0]; exact ⟨rfl, rfl⟩
    obtain ⟨m, rfl⟩ : ∃ m : Nat, n = m := ⟨n.toNat, by omega⟩
    rw [show ((m : Int)).toNat = m by omega] at HE
    obtain ⟨w1, ew1⟩ : ∃ w1, w1 = w.alloc (.cells #[.bool false, .slice none 0 0, .slice none 0 0] 25) := ⟨_, rfl⟩
    have HW : Hid (w1 = w.alloc (.cells #[.bool false, .slice none 0 0, .slice none 0 0] 25) ∧ Below w.heap.size w w1) := ⟨ew1, by rw [ew1]; exact below_alloc _ _⟩
    have HBX : Hid (∀ wr, Below w1.heap.size w1 wr → (wr.cell? ⟨w.heap.size, 0, none⟩ = some (.bool false) ∧ wr.cell? ⟨w.heap.size, 1, none⟩ = some (.slice none 0 0) ∧ wr.cell? ⟨w.heap.size, 2, none⟩ = some (.slice none 0 0)) ∧ ∀ j, wr.frozen? ⟨w.heap.size, j, none⟩ = false) := fun wr h => by
      rw [ew1] at h
      refine ⟨box_keep h, fun j => ?_⟩
      rw [h.frozen (p := ⟨w.heap.size, j, none⟩) (by simp)]
      simp
    have K := digitsOf_any w1 m (by omega)
    have HL : Hid ((digs m).length ≤ 8 ∧ ∀ x ∈ digs m, x < 256) := ⟨digs_len_le (by omega), digs_lt m⟩
    obtain ⟨t, et⟩ : ∃ t, t = digs m := ⟨_, rfl⟩
    rw [← et] at K HL HE
    clear ew1 et
    go_enter Try.func23, Try.ntmps23
    go_wp2_with fail
    rw [← HW.out.1]
    refine K.mono ?_
    rintro e w2 ⟨rfl, hm⟩
    have hb := hm.below
    have ho : w2.ownsRow w1.heap.size 5 1 (.slice (some ⟨w1.heap.size, 0, none⟩) t.length t.length) t.length (bv t) := own_rebase (Rm.str (F := fun _ => True) hm.room trivial HL.out.2 (by have := HL.out.1; omega)).own (fun g hg => by have e : w1.heap.size = g := Option.some.inj hg; omega)
    clear hm
    obtain ⟨⟨x0, x1, x2⟩, fz⟩ := HBX.out w2 hb
    have f0 := fz 0
    have f1 := fz 1
    have f2 := fz 2
    obtain ⟨av, eav⟩ : ∃ av, av = some (⟨w1.heap.size, 0, none⟩ : Addr) := ⟨_, rfl⟩
    rw [← eav] at ho ⊢
    clear eav
    obtain ⟨k, ek⟩ : ∃ k, k = t.length := ⟨_, rfl⟩
    rw [← ek] at ho ⊢
    have HO : Hid (w2.ownsRow w1.heap.size 5 1 (.slice av k k) k (bv t) ∧ Below w1.heap.size w1 w2 ∧ w1.heap.size = w.heap.size + 1 ∧ k = t.length) := ⟨ho, hb, by rw [HW.out.1]; simp, ek⟩
    have HX : Hid (w2.cell? ⟨w.heap.size, 0, none⟩ = some (.bool false) ∧ w2.cell? ⟨w.heap.size, 1, none⟩ = some (.slice none 0 0) ∧ w2.cell? ⟨w.heap.size, 2, none⟩ = some (.slice none 0 0)) := ⟨x0, x1, x2⟩
    clear K ho hb fz ek
    go_wp2_with fail
    obtain ⟨q0, q1, q2⟩ := set3_cells (x := .bool false) (y := .slice av k k) (z := .slice none 0 0) HX.out.1 HX.out.2.1 HX.out.2.2
    refine bodyPost_ret (res2 rfl _ _ w.heap.size _ _ rfl rfl (loadVar25 (x := .bool false) (y := .slice av k k) (z := .slice none 0 0) q0 q1 q2)) rfl ?_
    have t3 := set3_turn w2 w.heap.size (.bool false) (.slice av k k) (.slice none 0 0)
    refine ⟨_, by rw [HE.out.1]; rfl, ?_, ?_⟩
    · rw [HE.out.2]
      refine ⟨?_, fun g hg => ?_, ⟨by have := HL.out.1; omega, HL.out.2⟩⟩
      · rw [← HO.out.2.2.2]
        exact own_base (own_turn HO.out.1 t3 (fun g hg z => by have := (HO.out.1.lt g hg).1; have := HO.out.2.2.1; omega))
      · have hg' : (Value.slice av k k).ownBlock = some g := hg
        have := (HO.out.1.lt g hg').1
        have := HO.out.2.2.1
        omega
    · exact (ch HW.out.2 HO.out.2.1).trans (t3.below (fun i q => by omega) (by have := HW.out.2.size; have := HO.out.2.1.size; omega))
end Go.Proofs.Ytlpmcdnhnhgmpaa
