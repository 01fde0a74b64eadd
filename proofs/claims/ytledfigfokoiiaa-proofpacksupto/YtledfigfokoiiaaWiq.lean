import Derived.Test.YtledfigfokoiiaaFsq
/-
  writeItem.
-/
namespace Go.Proofs.Ytledfigfokoiiaa
open Go.RowKit
theorem forms_drop_eq {xs : List It} {i : Nat} {x : It} (h : xs[i]? = some x) : forms (xs.drop i) = form x ++ forms (xs.drop (i + 1)) := by
  obtain ⟨hi, rfl⟩ := List.getElem?_eq_some_iff.1 h
  rw [List.drop_eq_getElem_cons hi, forms_cons]
theorem forms_td (xs : List It) (i : Nat) : (forms (xs.take i)).length + (forms (xs.drop i)).length = (forms xs).length := by
  rw [← List.length_append, ← forms_app, List.take_append_drop]
/-- a box of an item -/
theorem box_cells {w wr : World} {g : Nat} {l : Bool} {u v : Value} (hg : g < w.heap.size) (h : Turn (fun i => i = g) (w.alloc (.cells #[.bool l, u, v] 46)) wr) :
    wr.cell? ⟨w.heap.size, 0, none⟩ = some (.bool l) ∧ wr.cell? ⟨w.heap.size, 1, none⟩ = some u ∧ wr.cell? ⟨w.heap.size, 2, none⟩ = some v := by
  have q : ∀ j, wr.cell? ⟨w.heap.size, j, none⟩ = #[.bool l, u, v][j]? := fun j => by
    rw [h.cell (by simp) (by show ¬ w.heap.size = g; omega), cell_of_row _ _ _ _ _ _ (heap_alloc_new w _)]
  exact ⟨q 0, q 1, q 2⟩
set_option maxRecDepth 100000 in
set_option maxHeartbeats 3200000 in
theorem writeItem_any : ∀ (x : It) (w0 w : World) (vb vi : Value) (g L K N : Nat) (t : List Nat), Lies Vb w0 x vb vi → Below w0.heap.size w0 w → w0.heap.size ≤ g → Rm w g t → t.length = N → L ≤ N → N ≤ 1048576 → L = K + (form x).length → may x = true →
    Calls Try.prog 30 #[.slice (some ⟨g, 0, none⟩) L N, iv x.l vb vi] w fun e w' =>
      e = .returned (.slice (some ⟨g, 0, none⟩) K N) ∧ Rm w' g (splice t K (form x)) ∧ Turn (fun i => i = g) w w' := by
  refine It.ind (fun l b xs ih => ?_)
  intro w0 w vb vi g L K N t h hbw hwg hr ht hLN hN hL hm
  have hk := h.keep hbw
  obtain ⟨a', c', a, c, blk, off, rfl, rfl, hB, hI⟩ := h.opened
  have hB2 := Rel.keep hB hbw
  obtain ⟨a'', b'', off'', c'', e, hv, -, -, hbl⟩ := hB2
  injection e with e1 _ e3
  subst e1
  subst e3
  show Calls Try.prog 30 #[_, iv l _ _] w _
  have hgw : g < w.heap.size := hr.lt
  have hfk := form_ok hm
  simp only [It.l, It.b, It.xs] at hfk
  obtain ⟨n, en⟩ : ∃ n, n = xs.length := ⟨_, rfl⟩
  have HN : Hid (n = xs.length) := en
  obtain ⟨nb, enb⟩ : ∃ n, n = b.length := ⟨_, rfl⟩
  have HNB : Hid (nb = b.length) := enb
  have hn := hI.hn
  have K0 := fun o => alone_any (w.alloc o) _ _ _ c' b (hv.below (below_alloc w o))
  rw [← enb] at K0 hbl ⊢
  rw [← en] at hn ⊢
  obtain ⟨w1, ew1⟩ : ∃ w1, w1 = w.alloc (.cells #[.bool l, .slice a' nb c', .slice a n c] 46) := ⟨_, rfl⟩
  have HW1 : Hid (w1 = w.alloc (.cells #[.bool l, .slice a' nb c', .slice a n c] 46)) := ew1
  have tw1 : Turn (fun i => i = g) w w1 := by rw [ew1]; exact Turn.alloc w _
  have bw1 : Below w.heap.size w w1 := by rw [ew1]; exact below_alloc w _
  have HBX : Hid (∀ wr, Turn (fun i => i = g) w1 wr → wr.cell? ⟨w.heap.size, 0, none⟩ = some (.bool l) ∧ wr.cell? ⟨w.heap.size, 1, none⟩ = some (.slice a' nb c') ∧ wr.cell? ⟨w.heap.size, 2, none⟩ = some (.slice a n c)) := fun wr h => by
    rw [ew1] at h
    exact box_cells hgw h
  have HV : Hid (Vw w1 a' b'' off'' b) := hv.below bw1
  have HR : Hid (Rm w1 g t) := hr.below bw1
  have HT : Hid (Turn (fun i => i = g) w w1) := tw1
  have HX : Hid (Its Vb w0 xs a blk off ∧ Below w0.heap.size w0 w1 ∧ w0.heap.size ≤ g) := ⟨hI, hbw.trans (bw1.mono hbw.size), hwg⟩
  have HQ : Hid (t.length = N ∧ L ≤ N ∧ L = K + (form (.mk l b xs)).length) := ⟨ht, hLN, hL⟩
  have q63 : N ≤ 9223372036854775807 := by omega
  have HM : Hid (may (.mk l b xs) = true) := hm
  have K1 := K0 (.cells #[.bool l, .slice a' nb c', .slice a n c] 46)
  rw [← ew1] at K1
  clear hI h hk hB en enb K0 ew1 hr hv tw1 bw1 ht hLN hL hm hwg hbw
  by_cases ha : alone b = true
  · have hl : l = false := by
      cases l
      · rfl
      · have := hfk.1 rfl
        subst this
        simp [alone] at ha
    subst hl
    have ef : form (.mk false b xs) = b := by rw [form_mk]; simp [ha]
    rw [ef] at HQ ⊢
    rw [ha] at K1
    have K2 := writeEnd_any w1 g L K N t HR.out HQ.out.1 HQ.out.2.1 q63 _ _ _ c' b HV.out HQ.out.2.2
    rw [← HNB.out] at K2
    have hb0 := HBX.out w1 (Turn.refl _ _)
    have x0 := hb0.1
    have x1 := hb0.2.1
    have x2 := hb0.2.2
    clear hb0 ef ih
    go_enter Try.func30, Try.ntmps30
    go_wp2_with fail
    rw [← HW1.out]
    refine K1.mono ?_
    rintro e w2 ⟨rfl, rfl⟩
    go_wp2_with (go_at_call 36; refine K2.mono ?_; rintro e w2 ⟨rfl, hr2, ht2⟩; have HZ : Hid (Rm w2 g (splice t K b) ∧ Turn (fun i => i = g) w w2) := ⟨hr2, HT.out.trans ht2 (fun i q => Or.inl q)⟩; clear hr2 ht2)
    go_ret
    exact ⟨rfl, HZ.out⟩
  · have hf : alone b = false := by simpa using ha
    rw [hf] at K1
    clear ha
    cases l with
    | false =>
      have ef : form (.mk false b xs) = hdr 128 b.length ++ b := by rw [form_mk]; simp [hf]
      have hx0 := hfk.2 rfl
      rw [ef] at HQ ⊢
      have q3 := HQ.out.2.2
      rw [List.length_append] at q3
      have K2 := writeEnd_any w1.drew g L (L - b.length) N t HR.out HQ.out.1 HQ.out.2.1 q63 _ _ _ c' b (HV.out.drewN 1) (by omega)
      rw [← HNB.out] at K2
      have hnb : nb ≤ 1048576 := by have := HQ.out.2.1; have := HNB.out; omega
      have K3 := fun w2 (hr2 : Rm w2 g (splice t (L - nb) b)) => writeHead_any w2 g (L - nb) K N nb 128 (splice t (L - nb) b) hr2 (by rw [splice_len (by have := HQ.out.1; have := HQ.out.2.1; have := HNB.out; omega)]; exact HQ.out.1) (by have := HQ.out.2.1; omega) q63 hnb (by omega) (by rw [HNB.out]; omega)
      have HS : Hid (∀ t' : List Nat, splice (splice t (L - nb) b) K (hdr 128 nb) = splice t K (hdr 128 b.length ++ b)) := fun _ => by
        rw [HNB.out]
        exact splice_splice (by omega) (by have := HQ.out.1; have := HQ.out.2.1; omega)
      have hb0 := HBX.out w1 (Turn.refl _ _)
      have x0 := hb0.1
      have x1 := hb0.2.1
      have x2 := hb0.2.2
      clear hb0 ef ih hfk hf q3 hx0
      go_enter Try.func30, Try.ntmps30
      go_wp2_with fail
      rw [← HW1.out]
      refine K1.mono ?_
      rintro e w2 ⟨rfl, rfl⟩
      go_wp2_with fail
      go_region_held3 (fun w' => w'.cell? ⟨w.heap.size, 1, none⟩ = some (.slice a' nb c'))
        (first | assumption | (exact (HBX.out _ (by assumption)).2.1))
        (first
          | (go_at_call 36; refine K2.mono ?_; rintro e w3 ⟨rfl, hr3, ht3⟩; have t3 : Turn (fun i => i = g) w2 w3 := (Turn.drew w2).trans ht3 (fun i q => Or.inl q))
          | (go_at_call 37; refine (K3 _ hr3).mono ?_; rintro e w4 ⟨rfl, hr4, ht4⟩; have t4 : Turn (fun i => i = g) w2 w4 := t3.trans ht4 (fun i q => Or.inl q)))
      have HZ : Hid (Rm w4 g (splice t K (hdr 128 b.length ++ b)) ∧ Turn (fun i => i = g) w w4) := ⟨by rw [← HS.out t]; exact hr4, HT.out.trans t4 (fun i q => Or.inl q)⟩
      clear hr4 ht4 t4 hr3 ht3 t3
      go_wp2_with fail
      go_ret
      exact ⟨rfl, HZ.out⟩
    | true =>
      have ef : form (.mk true b xs) = hdr 192 (forms xs).length ++ forms xs := by rw [form_mk]; simp
      rw [ef] at HQ ⊢
      have q3 := HQ.out.2.2
      rw [List.length_append] at q3
      have HMX : Hid (∀ x ∈ xs, may x = true) := by
        have hm := HM.out
        rw [may_mk] at hm
        simp at hm
        exact (mayL_iff xs).1 hm.2
      obtain ⟨F, eF⟩ : ∃ F, F = (forms xs).length := ⟨_, rfl⟩
      obtain ⟨hl, ehl⟩ : ∃ hl, hl = (hdr 192 F).length := ⟨_, rfl⟩
      have HF : Hid (F = (forms xs).length ∧ hl = (hdr 192 F).length) := ⟨eF, ehl⟩
      rw [← eF] at q3 HQ ⊢
      rw [← ehl] at q3
      have HL : Hid (L = K + (hl + F)) := q3
      have hFN : F ≤ 1048576 := by have := HQ.out.2.1; omega
      have hLb : L ≤ 1048576 := by have := HQ.out.2.1; omega
      have hb0 := HBX.out w1 (Turn.refl _ _)
      have x0 := hb0.1
      have x1 := hb0.2.1
      have x2 := hb0.2.2
      clear hb0 ef hfk hf eF ehl q3
      go_enter Try.func30, Try.ntmps30
      go_wp2_with fail
      rw [← HW1.out]
      refine K1.mono ?_
      rintro e w2 ⟨rfl, rfl⟩
      go_wp2_with fail
      go_loopg [5, 6] n (fun gg u k wr => ∃ (j : Nat), j ≤ n ∧ gg = j ∧ u = .slice (some ⟨g, 0, none⟩) (K + hl + (forms (xs.take j)).length) N ∧ k = .int .i64 ((j : Int) - 1) ∧ Turn (fun i => i = g) w2 wr ∧ Rm wr g (splice t (K + hl + (forms (xs.take j)).length) (forms (xs.drop j))))
      case atStart =>
        refine ⟨n, Nat.le_refl _, rfl, ?_, rfl, Turn.refl _ _, ?_⟩
        · rw [List.take_of_length_le (by have := HN.out; omega), ← HF.out.1, HL.out]
          congr 1
          omega
        · rw [List.take_of_length_le (by have := HN.out; omega), List.drop_of_length_le (by have := HN.out; omega), forms_nil]
          simpa [splice] using HR.out
      case round =>
        clear x0 x1 x2
        obtain ⟨j, hj, rfl, rfl, ei, hT, hR⟩ := hrel
        have HTR : Hid (Turn (fun i => i = g) w2 wr ∧ Rm wr g (splice t (K + hl + (forms (xs.take gk)).length) (forms (xs.drop gk)))) := ⟨hT, hR⟩
        have hx := HBX.out wr hT
        have x0 := hx.1
        have x1 := hx.2.1
        have x2 := hx.2.2
        clear hT hR hx
        by_cases h0 : 0 < gk
        · obtain ⟨i, rfl⟩ : ∃ i, gk = i + 1 := ⟨gk - 1, by omega⟩
          have e1 : ((i + 1 : Nat) : Int) - 1 = (i : Int) := by omega
          rw [e1] at ei
          subst ei
          have i1 : ¬ (i : Int) < 0 := by omega
          have i2 : i < n := by omega
          have hbw : Below w0.heap.size w0 wr := HX.out.2.1.trans (HTR.out.1.below (fun i q => by have := HX.out.2.2; omega) HX.out.2.1.size)
          obtain ⟨rfl, x, a1, n1, k1, a2, n2, k2, hx, hxm, c0, c1, c2, hL⟩ := HX.out.1.nth (Below.refl _ _) (i := i) (by have := HN.out; omega)
          have hlb : blk < w0.heap.size := World.block_lt_of_cell? _ _ c0
          have d0 := (hbw.cell (p := ⟨blk, off + i * 3, none⟩) hlb).trans c0
          have d1 := (hbw.cell (p := ⟨blk, off + i * 3 + 1, none⟩) hlb).trans c1
          have d2 := (hbw.cell (p := ⟨blk, off + i * 3 + 2, none⟩) hlb).trans c2
          have hft := forms_take_succ hx
          have hfd := forms_drop_eq hx
          have htd := forms_td xs (i + 1)
          have hle := forms_take_le xs (i + 1)
          rw [← HF.out.1] at hle
          have hlt : (forms (xs.take (i + 1))).length = (forms (xs.take i)).length + (form x).length := by rw [hft, List.length_append]
          have q1 := HQ.out.1
          have q2 := HQ.out.2.1
          have q3 := HL.out
          have sl : (splice t (K + hl + (forms (xs.take (i + 1))).length) (forms (xs.drop (i + 1)))).length = N := by
            rw [splice_len (by have := HF.out.1; omega)]
            exact q1
          have KK := ih x hxm w0 wr _ _ g (K + hl + (forms (xs.take (i + 1))).length) (K + hl + (forms (xs.take i)).length) N _ hL hbw HX.out.2.2 HTR.out.2 sl (by omega) (by omega) (by omega) (HMX.out x hxm)
          have HE : Hid (splice (splice t (K + hl + (forms (xs.take (i + 1))).length) (forms (xs.drop (i + 1)))) (K + hl + (forms (xs.take i)).length) (form x) = splice t (K + hl + (forms (xs.take i)).length) (forms (xs.drop i))) := by
            show _ = _
            rw [hfd]
            exact splice_splice (by omega) (by have := HF.out.1; omega)
          clear hx hxm c0 c1 c2 hL ih hft hfd htd hle hlt q1 q2 q3 sl hbw e1
          generalize (forms (xs.take (i + 1))).length = A at *
          generalize hB : (forms (xs.take i)).length = B at *
          have HBB : Hid ((forms (xs.take i)).length = B) := hB
          clear hB
          go_wp2_with (go_at_call 30; refine KK.mono ?_; rintro e w4 ⟨rfl, hr4, ht4⟩; have HZ : Hid (Rm w4 g (splice t (K + hl + B) (forms (xs.drop i))) ∧ Turn (fun i => i = g) w2 w4) := ⟨by rw [← HE.out]; exact hr4, HTR.out.1.trans ht4 (fun i q => Or.inl q)⟩; clear hr4 ht4)
          go_roundg i
          case measure => omega
          case rel => exact ⟨i, by omega, rfl, by rw [HBB.out], rfl, HZ.out.2, by rw [HBB.out]; exact HZ.out.1⟩
        · obtain rfl : gk = 0 := by omega
          subst ei
          have hR0 := HTR.out.2
          rw [List.take_zero, forms_nil, List.drop_zero] at hR0
          simp only [List.length_nil, Nat.add_zero] at hR0
          have q1 := HQ.out.1
          have q2 := HQ.out.2.1
          have q3 := HL.out
          have f1 := HF.out.1
          have f2 := HF.out.2
          have sl : (splice t (K + hl) (forms xs)).length = N := by
            rw [splice_len (by omega)]
            exact q1
          have KK := writeHead_any wr g (K + hl) K N F 192 _ hR0 sl (by omega) q63 hFN (by omega) (by rw [← f2])
          have HE : Hid (splice (splice t (K + hl) (forms xs)) K (hdr 192 F) = splice t K (hdr 192 F ++ forms xs)) := by
            show _ = _
            exact splice_splice (by rw [← f2]) (by omega)
          have eLF : (L : Int) - ((K : Int) + (hl : Int)) = (F : Int) := by omega
          have HTT : Hid (Turn (fun i => i = g) w w2 ∧ Turn (fun i => i = g) w2 wr) := ⟨HT.out, HTR.out.1⟩
          clear hR0 q1 q2 q3 f1 f2 sl ih
          rw [List.take_zero, forms_nil]
          simp only [List.length_nil, Nat.add_zero]
          go_wp2_with (go_at_call 37; refine KK.mono ?_; rintro e w4 ⟨rfl, hr4, ht4⟩; have HZ : Hid (Rm w4 g (splice t K (hdr 192 F ++ forms xs)) ∧ Turn (fun i => i = g) w w4) := ⟨by rw [← HE.out]; exact hr4, HTT.out.1.trans (HTT.out.2.trans ht4 (fun i q => Or.inl q)) (fun i q => Or.inl q)⟩; clear hr4 ht4)
          go_ret
          exact ⟨rfl, HZ.out⟩
end Go.Proofs.Ytledfigfokoiiaa
