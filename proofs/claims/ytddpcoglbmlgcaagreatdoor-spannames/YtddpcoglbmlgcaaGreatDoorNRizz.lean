import Derived.Test.YtddpcoglbmlgcaaGreatDoorNReszz
/-
  readItem.
-/
namespace Go.Proofs.YtddpcoglbmlgcaaGreatDoor
open Go.RowKit
/-- WHAT READING AN ITEM COMES TO -/
def ItemPost (s : List Nat) (d p e : Nat) (w : World) (r : Ending) (w' : World) : Prop :=
  Below w.heap.size w w' ∧ match rd s d p e with
    | .ok x z => ∃ vb vi, r = .returned (.tuple #[iv x.l vb vi, .int .i64 z]) ∧ Own w' w.heap.size w'.heap.size x vb vi
    | .bad q c => r = .panicked [flt q c]
set_option maxRecDepth 100000 in
set_option maxHeartbeats 1600000 in
theorem readItem_any (d : Nat) (hd : d ≤ 80) (KL : ∀ (w : World) (a : Option Addr) (b off e c p : Nat) (s : List Nat), Vp w a b off e c s → p < e → ¬ gd s p < 192 →
      Calls Tryz.prog 122 #[.slice a e c, .int .i64 p, .int .i64 ((80 - d : Nat) : Int)] w (ItemPost s d p e w))
    (w : World) (a : Option Addr) (b off e c p : Nat) (s : List Nat) (hv : Vp w a b off e c s) (hp : p ≤ e) :
    Calls Tryz.prog 92 #[.slice a e c, .int .i64 p, .int .i64 ((80 - d : Nat) : Int)] w (ItemPost s d p e w) := by
  have he : e ≤ 1048576 := by have := hv.len; have := hv.small; omega
  obtain ⟨dd, edd⟩ : ∃ dd, dd = 80 - d := ⟨_, rfl⟩
  rw [← edd] at KL ⊢
  have hdd : dd ≤ 80 := by omega
  by_cases h0 : p = e
  · have er : ∀ r w', ItemPost s d p e w r w' = (Below w.heap.size w w' ∧ r = .panicked [flt p 50]) := fun r w' => by unfold ItemPost; rw [rd_eq, if_pos h0]
    subst h0
    refine Calls.mono (R := fun r w' => r = .panicked [flt p 50] ∧ Below w.heap.size w w') ?_ (fun r w' h => by rw [er]; exact ⟨h.2, h.1⟩)
    clear er KL hv edd hd
    have KG := fun w => giveUp_any w p 50
    go_enter Tryz.func92, Tryz.ntmps92
    go_wp2_with (go_at_call 93; refine (KG _).mono ?_; rintro e w' ⟨rfl, rfl⟩)
    exact ⟨rfl, rfl, below_alloc _ _⟩
  · obtain ⟨rfl, c0, hx⟩ := hv.cell (i := p) (by omega)
    have hbw : b < w.heap.size := World.block_lt_of_cell? _ _ c0
    replace c0 := ((below_alloc w (.cells #[.bool false, .slice none 0 0, .slice none 0 0] 134)).cell (p := ⟨b, off + p, none⟩) hbw).trans c0
    by_cases h1 : gd s p < 128
    · have er : ∀ r w', ItemPost s d p e w r w' = (Below w.heap.size w w' ∧ ∃ vb vi, r = .returned (.tuple #[iv false vb vi, .int .i64 ((p + 1 : Nat) : Int)]) ∧ Own w' w.heap.size w'.heap.size (.mk false [gd s p] []) vb vi) := fun r w' => by unfold ItemPost; rw [rd_eq, if_neg h0, if_pos h1]; rfl
      generalize gd s p = x at *
      have HER : Hid (∀ r w', ItemPost s d p e w r w' = (Below w.heap.size w w' ∧ ∃ vb vi, r = .returned (.tuple #[iv false vb vi, .int .i64 ((p + 1 : Nat) : Int)]) ∧ Own w' w.heap.size w'.heap.size (.mk false [x] []) vb vi)) := er
      have i0 : ¬ (p : Int) = e := by omega
      have i1 : (x : Int) < 128 := by omega
      have i2 : p < e := by omega
      clear er KL hv edd hd
      go_enter Tryz.func92, Tryz.ntmps92
      go_wp2_with fail
      refine bodyPost_ret (res2 rfl _ _ w.heap.size _ _ rfl rfl (loadVar25 (x := .bool false) (y := .slice (some ⟨w.heap.size + 1, 0, none⟩) 1 1) (z := .slice none 0 0) (by simp) (by simp) (by simp))) rfl ?_
      rw [HER.out]
      refine ⟨(below_alloc _ _).alloc (by simp) _, _, _, rfl, .str ?_ ?_ (by simpa using hx) (by simp)⟩
      · have := World.ownsRow_lit (base := w.heap.size) (e := 5) (size := 1) (w.alloc (.cells #[.bool false, .slice (some ⟨w.heap.size + 1, 0, none⟩) 1 1, .slice none 0 0] 134)) #[.int .u8 x] 1 (by simp) (by decide) rfl
        simpa [bv] using this
      · intro q hq
        have : q = w.heap.size + 1 := (Option.some.inj hq).symm
        simp
        omega
    · have i0 : ¬ (p : Int) = e := by omega
      have i1 : ¬ ((gd s p : Nat) : Int) < 128 := by omega
      have i3 : p < e := by omega
      obtain ⟨w1, ew1⟩ : ∃ w1, w1 = w.alloc (.cells #[.bool false, .slice none 0 0, .slice none 0 0] 134) := ⟨_, rfl⟩
      have b1 : Below w.heap.size w w1 := by rw [ew1]; exact below_alloc _ _
      have s1 : w1.heap.size = w.heap.size + 1 := by rw [ew1]; simp
      have hv1 := hv.keep b1
      have HBX : Hid (∀ wr, Below w1.heap.size w1 wr → (wr.cell? ⟨w.heap.size, 0, none⟩ = some (.bool false) ∧ wr.cell? ⟨w.heap.size, 1, none⟩ = some (.slice none 0 0) ∧ wr.cell? ⟨w.heap.size, 2, none⟩ = some (.slice none 0 0)) ∧ ∀ j, wr.frozen? ⟨w.heap.size, j, none⟩ = false) := fun wr h => by
        rw [ew1] at h
        refine ⟨box_keep h, fun j => ?_⟩
        rw [h.frozen (p := ⟨w.heap.size, j, none⟩) (by simp)]
        simp
      have HB1 : Hid (Below w.heap.size w w1 ∧ w1.heap.size = w.heap.size + 1 ∧ w1 = w.alloc (.cells #[.bool false, .slice none 0 0, .slice none 0 0] 134)) := ⟨b1, s1, ew1⟩
      by_cases h2 : gd s p < 192
      · have i2 : ((gd s p : Nat) : Int) < 192 := by omega
        have K := readHead_any w1 _ _ _ _ _ p 128 (gd s p - 128) s hv1 i3 (by omega) (by omega)
        cases hh : rdHead s p e (gd s p - 128) with
        | bad q =>
          have HR : Hid (rd s d p e = .bad p q) := by
            show _ = _
            rw [rd_eq, if_neg h0, if_neg h1, if_pos h2, hh]
          rw [hh] at K
          generalize hgx : gd s p = x at *
          clear hgx KL hv hv1 edd hd s1 b1 hbw ew1 hh
          go_enter Tryz.func92, Tryz.ntmps92
          go_wp2_with fail
          rw [← HB1.out.2.2]
          refine K.mono ?_
          rintro r w2 ⟨rfl, rfl⟩
          go_wp2_with fail
          exact ⟨rfl, by unfold ItemPost; rw [HR.out]; exact ⟨HB1.out.1, rfl⟩⟩
        | ok A Z =>
          obtain ⟨k1, k2, k3, k4, -⟩ := rdHead_ok (base := 128) hv.ok hv.len i3 (by omega) (by omega) hh
          rw [hh] at K
          have hcl : (cut s A Z).length = Z - A := cut_len (by have := hv.len; omega)
          have hcap := hv.cap
          have sb := slice_both (some ⟨b, off, none⟩) e c A Z k2 (by omega)
          have hcut := hv1.cut (l := A) (z := Z) k2 k3
          have KA := alone_any w1 _ _ _ (c - A) _ hcut
          rw [hcl] at KA
          have ea : alone (cut s A Z) = decide (Z = A + 1 ∧ gd s A < 128) := by
            unfold alone
            rw [hcl]
            by_cases q : Z - A = 1
            · rw [cut_gd (by omega), Nat.add_zero, decide_eq_true q]
              simp [show Z = A + 1 by omega]
            · rw [decide_eq_false q]
              simp
              omega
          have hbh : ∃ pp, behind (some ⟨b, off, none⟩) c A = some pp := by
            unfold behind
            split
            · exact ⟨_, rfl⟩
            · exact ⟨_, rfl⟩
          obtain ⟨pp, ebh⟩ := hbh
          rw [ebh] at sb KA hcut
          rw [ea] at KA
          by_cases h4 : Z = A + 1 ∧ gd s A < 128
          · have HR : Hid (rd s d p e = .bad p 52) := by
              show _ = _
              rw [rd_eq, if_neg h0, if_neg h1, if_pos h2, hh]
              dsimp only
              rw [if_pos h4]
            rw [decide_eq_true h4] at KA
            have KG := fun w => giveUp_any w p 52
            generalize hgx : gd s p = x at *
            clear hgx KL hv hv1 edd hd s1 b1 hbw ew1 hh hcut ea ebh hcl h4
            go_enter Tryz.func92, Tryz.ntmps92
            go_wp2_with fail
            rw [← HB1.out.2.2]
            refine K.mono ?_
            rintro r w2 ⟨rfl, rfl⟩
            go_wp2_with (first | (go_at_call 118; refine KA.mono ?_; rintro e w' ⟨rfl, rfl⟩) | (go_at_call 93; refine (KG _).mono ?_; rintro e w' ⟨rfl, rfl⟩))
            exact ⟨rfl, by unfold ItemPost; rw [HR.out]; exact ⟨HB1.out.1, rfl⟩⟩
          · have HR : Hid (rd s d p e = .ok (.mk false (cut s A Z) []) Z) := by
              show _ = _
              rw [rd_eq, if_neg h0, if_neg h1, if_pos h2, hh]
              dsimp only
              rw [if_neg h4]
            rw [decide_eq_false h4] at KA
            have KC := clone_any w1 pp _ _ (c - A) _ hcut (by rw [hcl]; omega)
            have HO : Hid ((∀ x ∈ cut s A Z, x < 256) ∧ (cut s A Z).length = Z - A ∧ Z - A ≤ 1048576) := ⟨fun x hx => hv.ok x (cut_mem hx), hcl, by omega⟩
            rw [hcl] at KC
            generalize hgx : gd s p = x at *
            clear hgx KL hv hv1 edd hd s1 b1 hbw ew1 hh hcut ea ebh hcl h4
            go_enter Tryz.func92, Tryz.ntmps92
            go_wp2_with fail
            rw [← HB1.out.2.2]
            refine K.mono ?_
            rintro r w2 ⟨rfl, rfl⟩
            go_wp2_with (go_at_call 118; refine KA.mono ?_; rintro e w' ⟨rfl, rfl⟩)
            refine KC.mono ?_
            rintro r w3 ⟨v, rfl, own3, hb3, hlt3⟩
            obtain ⟨⟨x0, x1, x2⟩, xf⟩ := HBX.out w3 hb3
            have f0 := xf 0
            have f1 := xf 1
            have f2 := xf 2
            obtain ⟨av, cv, ev⟩ := own_slice own3
            subst ev
            have HZ : Hid (w3.ownsRow w'.heap.size 5 1 (.slice av (Z - A) cv) (Z - A) (bv (cut s A Z)) ∧ Below w'.heap.size w' w3 ∧ ∀ q, (Value.slice av (Z - A) cv).ownBlock = some q → q < w3.heap.size) := ⟨own3, hb3, hlt3⟩
            clear own3 hb3 hlt3 xf
            go_wp2_with fail
            refine bodyPost_ret (res2 rfl _ _ w.heap.size _ _ rfl rfl (loadVar25 (set3_cells x0 x1 x2).1 (set3_cells x0 x1 x2).2.1 (set3_cells x0 x1 x2).2.2)) rfl ?_
            have t3 := set3_turn w3 w.heap.size (.bool false) (.slice av (Z - A) cv) (.slice none 0 0)
            have z1 := HB1.out.2.1
            have z2 := HZ.out.2.1.size
            unfold ItemPost
            rw [HR.out]
            refine ⟨(ch HB1.out.1 HZ.out.2.1).trans (t3.below (fun i q => by omega) (by omega)), _, _, rfl, ?_⟩
            have ho : Own w3 w'.heap.size w3.heap.size (.mk false (cut s A Z) []) (.slice av (Z - A) cv) (.slice none 0 0) := .str (by rw [HO.out.2.1]; exact HZ.out.1) HZ.out.2.2 HO.out.1 (by rw [HO.out.2.1]; exact HO.out.2.2)
            exact (ho.turn t3 (fun i q1 q2 => by omega) (Nat.le_refl _)).wide (by omega) (by simp)
      · have i2 : ¬ ((gd s p : Nat) : Int) < 192 := by omega
        have K := KL w1 _ _ _ _ _ _ s hv1 i3 h2
        have er : ∀ r w', ItemPost s d p e w1 r w' → Below w1.heap.size w1 w' ∧ match rd s d p e with
            | .ok x z => ∃ vb vi, r = .returned (.tuple #[iv x.l vb vi, .int .i64 z]) ∧ Own w' w1.heap.size w'.heap.size x vb vi
            | .bad q c => r = .panicked [flt q c] := fun r w' h => h
        generalize hgx : gd s p = x at *
        clear hgx KL hv hv1 edd hd s1 b1 hbw ew1
        cases hrd : rd s d p e with
        | bad q cd =>
          have HR : Hid (rd s d p e = .bad q cd) := hrd
          rw [hrd] at er
          clear hrd
          go_enter Tryz.func92, Tryz.ntmps92
          go_wp2_with fail
          rw [← HB1.out.2.2]
          refine K.mono ?_
          intro r w2 hr
          obtain ⟨hb2, rfl⟩ := er r w2 hr
          have HZ : Hid (Below w.heap.size w w2) := ch HB1.out.1 hb2
          clear hr hb2
          go_wp2_with fail
          exact ⟨rfl, by unfold ItemPost; rw [HR.out]; exact ⟨HZ.out, rfl⟩⟩
        | ok y z =>
          have HR : Hid (rd s d p e = .ok y z) := hrd
          rw [hrd] at er
          clear hrd
          go_enter Tryz.func92, Tryz.ntmps92
          go_wp2_with fail
          rw [← HB1.out.2.2]
          refine K.mono ?_
          intro r w2 hr
          obtain ⟨hb2, vb, vi, rfl, ho⟩ := er r w2 hr
          obtain ⟨a1, n1, k1, a2, n2, k2, rfl, rfl⟩ := ho.lies.form
          obtain ⟨⟨x0, x1, x2⟩, xf⟩ := HBX.out w2 hb2
          have f0 := xf 0
          have f1 := xf 1
          have f2 := xf 2
          have HZ : Hid (Below w1.heap.size w1 w2 ∧ Own w2 w1.heap.size w2.heap.size y (.slice a1 n1 k1) (.slice a2 n2 k2)) := ⟨hb2, ho⟩
          clear hr hb2 ho xf
          go_wp2_with fail
          refine bodyPost_ret (res2 rfl _ _ w.heap.size _ _ rfl rfl (loadVar25 (set3_cells x0 x1 x2).1 (set3_cells x0 x1 x2).2.1 (set3_cells x0 x1 x2).2.2)) rfl ?_
          have t3 := set3_turn w2 w.heap.size (.bool y.l) (.slice a1 n1 k1) (.slice a2 n2 k2)
          have z1 := HB1.out.2.1
          have z2 := HZ.out.1.size
          unfold ItemPost
          rw [HR.out]
          refine ⟨(ch HB1.out.1 HZ.out.1).trans (t3.below (fun i q => by omega) (by omega)), _, _, rfl, ?_⟩
          exact (HZ.out.2.turn t3 (fun i q1 q2 => by omega) (Nat.le_refl _)).wide (by omega) (by simp)
end Go.Proofs.YtddpcoglbmlgcaaGreatDoor
