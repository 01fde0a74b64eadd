import Derived.Test.YtledfigfokoiiaaLvq
/-
  cairnref15: header.
-/
namespace Go.Proofs.Ytledfigfokoiiaa
open Go.RowKit
set_option maxRecDepth 100000 in
set_option maxHeartbeats 1600000 in
theorem header_any (w : World) (base n : Nat) (hn : n ≤ 1099511627776) (hb : base ≤ 192) :
    Calls Try.prog 20 #[.int .i64 base, .int .i64 n] w fun e w' => ∃ v, e = .returned v ∧ w'.ownsRow w.heap.size 5 1 v (hdr base n).length (bv (hdr base n)) ∧ Below w.heap.size w w' ∧ v ≠ .slice none 0 0 := by
  by_cases h : n < 56
  · have eh : hdr base n = [base + n] := by unfold hdr; rw [if_pos h]
    rw [eh]
    have i1 : (n : Int) < 56 := by omega
    have e1 : ((base : Int) + n) % 256 = (base : Int) + n := by omega
    have own0 := World.ownsRow_lit (base := w.heap.size) (e := 5) (size := 1) w #[.int .u8 ((base : Int) + n)] 1 (Nat.le_refl _) (by decide) rfl
    have HO : Hid ((w.alloc (.cells #[.int .u8 ((base : Int) + n)] 5)).ownsRow w.heap.size 5 1 (.slice (some ⟨w.heap.size, 0, none⟩) 1 1) 1 [.int .u8 ((base : Int) + n)]) := own0
    clear own0
    go_enter Try.func20, Try.ntmps20
    go_wp2_with fail
    go_ret
    refine ⟨_, rfl, ?_, below_alloc _ _, by simp⟩
    have e2 : bv [base + n] = [.int .u8 ((base : Int) + n)] := by simp [bv]
    rw [e2]
    exact HO.out
  · have eh : hdr base n = (base + 55 + (digs n).length) :: digs n := by unfold hdr; rw [if_neg h]
    have i0 : ¬ (n : Int) < 56 := by omega
    have HL : Hid ((digs n).length ≤ 6) := digs_len_le (by omega)
    have HE : Hid (hdr base n = (base + 55 + (digs n).length) :: digs n) := eh
    clear eh
    go_enter Try.func20, Try.ntmps20
    go_wp2_with fail
    go_loopg [5, 6] n (fun gg v u wr => ∃ (m : Nat) (t : List Nat), gg = m ∧ m ≤ n ∧ u = .int .i64 m ∧ digs n = digs m ++ t ∧ wr.ownsRow w.heap.size 5 1 v t.length (bv t) ∧ Below w.heap.size w wr ∧ (∀ x ∈ t, x < 256))
    case atStart => exact ⟨n, [], rfl, Nat.le_refl _, rfl, by simp, ⟨rfl, Or.inl ⟨rfl, rfl⟩⟩, Below.refl _ _, by simp⟩
    case round =>
      obtain ⟨m, t, rfl, hm, rfl, hd, ho, hb, hok⟩ := hrel
      have ht : t.length ≤ 6 := by
        have := HL.out
        rw [hd, List.length_append] at this
        omega
      obtain ⟨av, cv, ev⟩ := own_slice ho
      subst ev
      have vbt := vb_of_own ho rfl hok (by omega)
      obtain ⟨a2, b2, off2, c2, e2, hv, -, hnil, -⟩ := vbt
      injection e2 with z1 _ z3
      subst z1
      subst z3
      by_cases h0 : 0 < gk
      · have i1 : (0 : Int) < (gk : Int) := by omega
        have own0 := World.ownsRow_lit (base := wr.heap.size) (e := 5) (size := 1) wr #[.int .u8 ((gk : Int) % 256)] 1 (Nat.le_refl _) (by decide) rfl
        have HO : Hid ((wr.alloc (.cells #[.int .u8 ((gk : Int) % 256)] 5)).ownsRow wr.heap.size 5 1 (.slice (some ⟨wr.heap.size, 0, none⟩) 1 1) 1 [.int .u8 ((gk : Int) % 256)] ∧ Below w.heap.size w wr ∧ digs n = digs gk ++ t ∧ ∀ x ∈ t, x < 256) := ⟨own0, hb, hd, hok⟩
        have HV : Hid (View (wr.alloc (.cells #[.int .u8 ((gk : Int) % 256)] 5)) av b2 off2 t.length (fun i => ((gd t i : Nat) : Int)) ∧ (av = none → cv = 0)) := ⟨hv.below (below_alloc _ _), hnil⟩
        have q1 : (gk : Int) % 256 % 256 = (gk : Int) % 256 := by omega
        have q2 : (gk : Int).tmod 256 = (gk : Int) % 256 := Int.tmod_eq_emod_of_nonneg (by omega)
        have q3 : (gk : Int).tdiv 256 = (gk : Int) / 256 := Int.tdiv_eq_ediv_of_nonneg (by omega)
        clear own0 hv hnil ho hb hd hok
        go_wp2_with (refine wpList_append_bytes (by rfl) (.tmp 22) (.tmp 23) (by rfl) wr.heap.size _ 1 _ (by rfl) HO.out.1 av b2 off2 t.length cv _ (by rfl) HV.out.1 HV.out.2 (by omega) (by simp) ?_)
        intro v1 w1 own1 gr1 nn1
        have b1 : Below w.heap.size w w1 := (ch HO.out.2.1 (below_alloc _ _)).trans (grown_below gr1 HO.out.1 HO.out.2.1.size (by have := HO.out.2.1.size; simp; omega))
        have own2 : w1.ownsRow w.heap.size 5 1 v1 ((gk % 256) :: t).length (bv ((gk % 256) :: t)) := by
          have e1 : (Value.int IntKind.u8 ((gk : Int) % 256) :: vals (fun i => ((gd t i : Nat) : Int)) t.length) = bv ((gk % 256) :: t) := by
            rw [vals_bv]
            simp [bv]
          have := own_rebase own1 (C := w.heap.size) (fun g hg => by have := (own1.lt g hg).1; have := HO.out.2.1.size; omega)
          rw [show ((gk % 256) :: t).length = 1 + t.length by simp; omega, ← e1]
          simpa using this
        have HZ : Hid (w1.ownsRow w.heap.size 5 1 v1 ((gk % 256) :: t).length (bv ((gk % 256) :: t)) ∧ Below w.heap.size w w1) := ⟨own2, b1⟩
        clear own1 own2 gr1 nn1 b1
        go_wp2_with fail
        go_roundg (gk / 256)
        case measure => omega
        case rel =>
          refine ⟨gk / 256, (gk % 256) :: t, rfl, by omega, by go_num, ?_, HZ.out.1, HZ.out.2, fun x hx => ?_⟩
          · rw [HO.out.2.2.1, digs_pos h0]; simp
          · rcases List.mem_cons.1 hx with rfl | hx
            · omega
            · exact HO.out.2.2.2 x hx
      · have e0 : gk = 0 := by omega
        subst e0
        rw [digs_zero, List.nil_append] at hd
        have e1 : ((base : Int) + 55 + t.length) % 256 = (base : Int) + 55 + t.length := by omega
        have own0 := World.ownsRow_lit (base := wr.heap.size) (e := 5) (size := 1) wr #[.int .u8 ((base : Int) + 55 + t.length)] 1 (Nat.le_refl _) (by decide) rfl
        have HO : Hid ((wr.alloc (.cells #[.int .u8 ((base : Int) + 55 + t.length)] 5)).ownsRow wr.heap.size 5 1 (.slice (some ⟨wr.heap.size, 0, none⟩) 1 1) 1 [.int .u8 ((base : Int) + 55 + t.length)] ∧ Below w.heap.size w wr) := ⟨own0, hb⟩
        have HV : Hid (View (wr.alloc (.cells #[.int .u8 ((base : Int) + 55 + t.length)] 5)) av b2 off2 t.length (fun i => ((gd t i : Nat) : Int)) ∧ (av = none → cv = 0) ∧ digs n = t) := ⟨hv.below (below_alloc _ _), hnil, hd⟩
        clear own0 hv hnil ho hb hd hok
        go_wp2_with (refine wpList_append_bytes (by rfl) (.tmp 31) (.tmp 32) (by rfl) wr.heap.size _ 1 _ (by rfl) HO.out.1 av b2 off2 t.length cv _ (by rfl) HV.out.1 HV.out.2.1 (by omega) (by simp) ?_)
        intro v1 w2 own1 gr1 nn1
        have b1 : Below w.heap.size w w2 := (ch HO.out.2 (below_alloc _ _)).trans (grown_below gr1 HO.out.1 HO.out.2.size (by have := HO.out.2.size; simp; omega))
        have own2 : w2.ownsRow w.heap.size 5 1 v1 (hdr base n).length (bv (hdr base n)) := by
          have e3 : (Value.int IntKind.u8 ((base : Int) + 55 + t.length) :: vals (fun i => ((gd t i : Nat) : Int)) t.length) = bv ((base + 55 + t.length) :: t) := by
            rw [vals_bv]
            simp [bv]
          have := own_rebase own1 (C := w.heap.size) (fun g hg => by have := (own1.lt g hg).1; have := HO.out.2.size; omega)
          rw [HE.out, HV.out.2.2, show ((base + 55 + t.length) :: t).length = 1 + t.length by simp; omega, ← e3]
          simpa using this
        have HZ : Hid (w2.ownsRow w.heap.size 5 1 v1 (hdr base n).length (bv (hdr base n)) ∧ Below w.heap.size w w2 ∧ v1 ≠ .slice none 0 0) := ⟨own2, b1, nn1⟩
        clear own1 own2 gr1 nn1 b1
        go_wp2_with fail
        go_ret
        exact ⟨_, rfl, HZ.out⟩
end Go.Proofs.Ytledfigfokoiiaa
