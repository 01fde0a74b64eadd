/-
  RlpLimits: the law.
-/
import Derived.Test.YtlpmcdnhnhgmpaaLim
namespace Go.Proofs.Ytlpmcdnhnhgmpaa
open Go.RowKit

/-- the list of lists, as far as it is built -/
structure Nb (w wr : World) (k : Nat) (v : Value) : Prop where
  below : Below w.heap.size w wr
  box : Bx wr w.heap.size 25 (.bool true) (.slice none 0 0) v
  og : Og 25 [] wr (w.heap.size + 1) wr.heap.size (nest k) (.slice none 0 0) v
theorem Nb.next {w wr : World} {k : Nat} {v : Value} (h : Nb w wr k v) : Nb w (set3 (wr.alloc (.cells #[.bool true, .slice none 0 0, v] 25)) w.heap.size (.bool true) (.slice none 0 0) (.slice (some ⟨wr.heap.size, 0, none⟩) 1 1)) (k + 1) (.slice (some ⟨wr.heap.size, 0, none⟩) 1 1) := by
  have hl := h.box.lt
  have b1 := below_alloc wr (.cells #[.bool true, .slice none 0 0, v] 25)
  have t1 := set3_turn (wr.alloc (.cells #[.bool true, .slice none 0 0, v] 25)) w.heap.size (.bool true) (.slice none 0 0) (.slice (some ⟨wr.heap.size, 0, none⟩) 1 1)
  have bx : Bx (wr.alloc (.cells #[.bool true, .slice none 0 0, v] 25)) w.heap.size 25 (.bool true) (.slice none 0 0) v := h.box.keep (b1.block _ hl)
  refine ⟨(ch h.below b1).trans (t1.below (fun i e => by omega) (by simp; omega)), bx.set3, ?_⟩
  refine h.og.around (g := wr.heap.size) (fun q q1 q2 => ?_) ?_ (by omega) (by simp) (by simp)
  · rw [t1.block q (by simp; omega) (by omega)]
    exact b1.block q q2
  · rw [t1.block _ (by simp) (by omega), nest_l]
    exact heap_alloc_new _ _

set_option maxRecDepth 100000 in
set_option maxHeartbeats 3200000 in
theorem limits_any (w : World) : Calls Try.prog 3 #[] w fun e w' => e = .returned (.bool true) ∧ Below w.heap.size w w' := by
  have HN0 : Hid (Nb w (w.alloc (.cells #[.bool true, .slice none 0 0, .slice none 0 0] 25)) 0 (.slice none 0 0)) := ⟨below_alloc _ _, heap_alloc_new _ _, Og.empty _ _ _ _⟩
  go_enter Try.func3, Try.ntmps3
  go_wp2_with fail
  go_loopg [2] 79 (fun gg u wr => ∃ (k : Nat) (v : Value), k ≤ 79 ∧ gg = 79 - k ∧ u = .int .i64 ((k : Int) + 1) ∧ Nb w wr k v)
  case atStart => exact ⟨0, _, by omega, rfl, rfl, HN0.out⟩
  case round =>
    clear HN0
    obtain ⟨k, v, hk, rfl, rfl, hN⟩ := hrel
    obtain ⟨-, -, -, a2, n2, k2, -, rfl⟩ := hN.og.lies.form
    obtain ⟨x0, x1, x2, xf⟩ := hN.box.cells
    have xf0 := xf 0
    have xf1 := xf 1
    have xf2 := xf 2
    have HN : Hid (Nb w wr k (.slice a2 n2 k2)) := hN
    by_cases hin : k < 79
    · have i1 : (k : Int) + 1 < 80 := by omega
      have z := hN.box.lt
      obtain ⟨y0, y1, y2, yf⟩ := (hN.box.keep ((below_alloc wr (.cells #[.bool true, .slice none 0 0, .slice a2 n2 k2] 25)).block _ z)).cells
      have yf0 := yf 0
      have yf1 := yf 1
      have yf2 := yf 2
      have HN1 : Hid (Nb w (set3 (wr.alloc (.cells #[.bool true, .slice none 0 0, .slice a2 n2 k2] 25)) w.heap.size (.bool true) (.slice none 0 0) (.slice (some ⟨wr.heap.size, 0, none⟩) 1 1)) (k + 1) (.slice (some ⟨wr.heap.size, 0, none⟩) 1 1)) := hN.next
      clear hN xf yf z
      go_wp2_with fail
      go_roundg (79 - (k + 1))
      case measure => omega
      case rel => exact ⟨k + 1, _, hin, rfl, by go_num, HN1.out⟩
    · obtain rfl : k = 79 := by omega
      have i1 : ¬ ((79 : Nat) : Int) + 1 < 80 := by decide
      clear hN xf
      have K1 := encode_any (nest 79) wr _ _ HN.out.og.lies
      rw [enc79.1, enc79.2, nest_l] at K1
      go_wp2_with fail
      refine K1.mono ?_
      rintro e w1 ⟨vF, rfl, sF, b1⟩
      obtain ⟨aF, gF, cF, rfl, hcF, vvF, -⟩ := sF.view
      have K2 := decode_any w1 aF gF 0 cF _ vvF hcF (by rw [nest_len 79 (by omega), nl79]; omega)
      rw [nest_len 79 (by omega), nl79] at K2
      rw [nest_len 79 (by omega), nl79]
      obtain ⟨dX, dP, dE⟩ := decXPE dec79
      have HB1 : Hid (Below wr.heap.size wr w1) := b1
      clear K1 sF b1 vvF hcF
      go_wp2_with fail
      refine K2.mono ?_
      rintro e w2 ⟨vY, viY, rfl, oY, b2⟩
      rw [dX] at oY
      rw [dX, dP, dE, nest_l]
      obtain ⟨aY, nY, cY, aZ, nZ, cZ, rfl, rfl⟩ := oY.lies.form
      have HB2 : Hid (Below wr.heap.size wr w2) := ch HB1.out b2
      have HY : Hid (Lies Vb w2 (nest 79) (.slice aY nY cY) (.slice aZ nZ cZ)) := oY.lies
      clear oY b2 K2 dX dP dE
      obtain ⟨wY, eY⟩ : ∃ wY, wY = w2.alloc (.cells #[.bool true, .slice aY nY cY, .slice aZ nZ cZ] 25) := ⟨_, rfl⟩
      have bY : Below w2.heap.size w2 wY := by rw [eY]; exact below_alloc _ _
      have hz := HN.out.box.lt
      have bx1 : Bx wY w.heap.size 25 (.bool true) (.slice none 0 0) (.slice a2 n2 k2) := HN.out.box.keep ((ch HB2.out bY).block _ hz)
      obtain ⟨p0, p1, p2, -⟩ := bx1.cells
      rw [eY] at p0 p1 p2
      obtain ⟨wZ, eZ⟩ : ∃ wZ, wZ = wY.alloc (.cells #[.bool true, .slice none 0 0, .slice a2 n2 k2] 25) := ⟨_, rfl⟩
      have bZ : Below wY.heap.size wY wZ := by rw [eZ]; exact below_alloc _ _
      have lZ : Lies Vb wZ (nest 80) (.slice none 0 0) (.slice (some ⟨wY.heap.size, 0, none⟩) 1 1) := by
        have bb := ch HB2.out (ch bY bZ)
        refine (HN.out.og.around (w' := wZ) (g := wY.heap.size) (fun q q1 q2 => bb.block q q2) ?_ ?_ ?_ bb.size).lies
        · rw [nest_l, eZ]; exact heap_alloc_new _ _
        · have := HB2.out.size; have := bY.size; omega
        · rw [eZ]; simp
      have K3 := encode_any (nest 80) wZ _ _ lZ
      rw [enc80.1, enc80.2, nest_l] at K3
      have sY : wY.heap.size = w2.heap.size + 1 := by rw [eY]; simp
      rw [sY] at K3
      have HZ : Hid (wZ = (w2.alloc (.cells #[.bool true, .slice aY nY cY, .slice aZ nZ cZ] 25)).alloc (.cells #[.bool true, .slice none 0 0, .slice a2 n2 k2] 25) ∧ Below w2.heap.size w2 wY ∧ Below wY.heap.size wY wZ ∧ wY = w2.alloc (.cells #[.bool true, .slice aY nY cY, .slice aZ nZ cZ] 25)) := ⟨by rw [eZ, eY], bY, bZ, eY⟩
      clear lZ bx1 bY bZ eY eZ sY hz x0 x1 x2 xf0 xf1 xf2
      go_wp2_with fail
      rw [← HZ.out.1]
      refine K3.mono ?_
      rintro e w3 ⟨v3, rfl, s3, b3⟩
      obtain ⟨a3, g3, c3, rfl, -, -, -⟩ := s3.view
      have HB3 : Hid (Below wY.heap.size wY w3) := ch HZ.out.2.2.1 b3
      clear s3 b3 K3 p0 p1 p2
      go_wp2_with fail
      have HBX : Hid (∀ w', Below w3.heap.size w3 w' → (w'.cell? ⟨w.heap.size, 0, none⟩ = some (.bool true) ∧ w'.cell? ⟨w.heap.size, 1, none⟩ = some (.slice none 0 0) ∧ w'.cell? ⟨w.heap.size, 2, none⟩ = some (.slice a2 n2 k2)) ∧ (w'.cell? ⟨w2.heap.size, 0, none⟩ = some (.bool true) ∧ w'.cell? ⟨w2.heap.size, 1, none⟩ = some (.slice aY nY cY) ∧ w'.cell? ⟨w2.heap.size, 2, none⟩ = some (.slice aZ nZ cZ))) := fun w' k => by
        have hz := HN.out.box.lt
        have q1 := (HN.out.box.keep ((ch (ch (ch HB2.out HZ.out.2.1) HB3.out) k).block _ hz)).cells
        have q2 := ch HB3.out k
        rw [HZ.out.2.2.2] at q2
        have q3 := box_keep q2
        exact ⟨⟨q1.1, q1.2.1, q1.2.2.1⟩, q3⟩
      obtain ⟨⟨x0, x1, x2⟩, y0, y1, y2⟩ := HBX.out w3 (Below.refl _ _)
      have K4 : Hid (∀ w', Below w3.heap.size w3 w' → Calls Try.prog 11 #[iv true (.slice aY nY cY) (.slice aZ nZ cZ)] w' fun e w'' => ∃ vb' vi', e = .returned (iv true vb' vi') ∧ Og 34 [] w'' w'.heap.size w''.heap.size (nest 79) vb' vi' ∧ Below w'.heap.size w' w'') := fun w' k => by
        have := back_any (nest 79) w' _ _ (HY.out.keep (ch (ch HZ.out.2.1 HB3.out) k))
        rwa [nest_l] at this
      have K5 : Hid (∀ w', Below w3.heap.size w3 w' → Calls Try.prog 11 #[iv true (.slice none 0 0) (.slice a2 n2 k2)] w' fun e w'' => ∃ vb' vi', e = .returned (iv true vb' vi') ∧ Og 34 [] w'' w'.heap.size w''.heap.size (nest 79) vb' vi' ∧ Below w'.heap.size w' w'') := fun w' k => by
        have := back_any (nest 79) w' _ _ (HN.out.og.lies.keep (ch (ch (ch HB2.out HZ.out.2.1) HB3.out) k))
        rwa [nest_l] at this
      go_region_held3 (fun w' => (w'.cell? ⟨w.heap.size, 0, none⟩ = some (.bool true) ∧ w'.cell? ⟨w.heap.size, 1, none⟩ = some (.slice none 0 0) ∧ w'.cell? ⟨w.heap.size, 2, none⟩ = some (.slice a2 n2 k2)) ∧ (w'.cell? ⟨w2.heap.size, 0, none⟩ = some (.bool true) ∧ w'.cell? ⟨w2.heap.size, 1, none⟩ = some (.slice aY nY cY) ∧ w'.cell? ⟨w2.heap.size, 2, none⟩ = some (.slice aZ nZ cZ)))
        (first | (exact HBX.out _ (by assumption)) | (exact HBX.out _ (Below.drew (Below.refl _ _))))
        (first
          | (go_at_call_of 11 (Value.slice aZ nZ cZ); refine (K4.out _ (Below.drew (Below.refl _ _))).mono ?_; rintro e w4 ⟨vb4, vi4, rfl, o4, bb4⟩; obtain ⟨e1, m1, d1, e2, m2, d2, rfl, rfl⟩ := o4.lies.form; have B4 : Below w3.heap.size w3 w4 := ch (Below.drew (Below.refl _ _)) bb4)
          | (go_at_call_of 11 (Value.slice a2 n2 k2); refine (K5.out _ B4).mono ?_; rintro e w5 ⟨vb5, vi5, rfl, o5, bb5⟩; obtain ⟨e3, m3, d3, e4, m4, d4, rfl, rfl⟩ := o5.lies.form; have B5 : Below w3.heap.size w3 w5 := ch B4 bb5; have S5 := same_any (nest 79) w5 _ _ _ _ (o4.lies.keep bb5) o5.lies; rw [nest_l] at S5)
          | (go_at_call 10; refine S5.mono ?_; rintro e w6 ⟨rfl, bb6⟩; have B6 : Below w3.heap.size w3 w6 := ch B5 bb6))
      have HB6 : Hid (Below w.heap.size w w6) := ch (ch (ch (ch HN.out.below HB2.out) HZ.out.2.1) HB3.out) B6
      clear o4 bb4 B4 o5 bb5 B5 S5 bb6 B6 x0 x1 x2 y0 y1 y2
      have HD0 : Hid (∃ a g c, Value.slice (some ⟨w6.heap.size, 0, none⟩) 1 1 = .slice a (nl 0) c ∧ Vw (w6.alloc (.cells #[.int .u8 192] 5)) a g 0 (form (nest 0)) ∧ nl 0 ≤ c ∧ (a = none → c = 0)) := ⟨_, _, _, rfl, vw_row (s := [192]) (fr := (0, 0)) (heap_alloc_new _ _) (by decide) (by decide), by decide, (fun h => by cases h)⟩
      go_wp2_with fail
      go_loopg [10, 11] 80 (fun gg v u wr => ∃ (k : Nat) (a : Option Addr) (g c : Nat), k ≤ 80 ∧ gg = 80 - k ∧ u = .int .i64 (k : Int) ∧ v = .slice a (nl k) c ∧ Vw wr a g 0 (form (nest k)) ∧ nl k ≤ c ∧ (a = none → c = 0) ∧ Below w.heap.size w wr)
      case atStart =>
        obtain ⟨a, g, c, e1, e2, e3, e4⟩ := HD0.out
        exact ⟨0, a, g, c, by omega, rfl, rfl, e1, e2, e3, e4, ch HB6.out (below_alloc _ _)⟩
      case round =>
        clear HD0
        obtain ⟨k, a, g, c, hk, rfl, rfl, rfl, hv, hc, hnil, hb⟩ := hrel
        have hlen := nest_len k (by omega)
        have hnl := nl_le k
        by_cases hin : k < 80
        · have i1 : (k : Int) < 80 := by omega
          have hform := nest_form k
          rw [hlen] at hform
          have hnk : nl (k + 1) = if nl k < 56 then nl k + 1 else nl k + 2 := rfl
          have HX : Hid (Below w.heap.size w wr ∧ (form (nest k)).length = nl k ∧ ∀ x ∈ form (nest k), x < 256) := ⟨hb, hlen, (vw_ok hv).2⟩
          by_cases h56 : nl k < 56
          · have i2 : ¬ (56 : Int) ≤ (nl k : Int) := by omega
            rw [hdr_short h56] at hform
            rw [if_pos h56] at hnk
            have HF : Hid (form (nest (k + 1)) = [192 + nl k] ++ form (nest k) ∧ nl (k + 1) = nl k + 1) := ⟨hform, hnk⟩
            generalize nl k = n at *
            have e1 : ((192 : Int) + n) % 256 = ((192 + n : Nat) : Int) := by omega
            have ec : ((192 + n : Nat) : Int) = 192 + (n : Int) := by omega
            have own0 := World.ownsRow_lit (base := wr.heap.size) (e := 5) (size := 1) wr #[.int .u8 (192 + (n : Int))] 1 (Nat.le_refl _) (by decide) rfl
            have HO : Hid ((wr.alloc (.cells #[.int .u8 (192 + (n : Int))] 5)).ownsRow wr.heap.size 5 1 (.slice (some ⟨wr.heap.size, 0, none⟩) 1 1) 1 [.int .u8 (192 + (n : Int))]) := own0
            have hv1 : View (wr.alloc (.cells #[.int .u8 (192 + (n : Int))] 5)) a g 0 n (fun i => ((gd (form (nest k)) i : Nat) : Int)) := by
              have := hv.below (below_alloc wr (.cells #[.int .u8 (192 + (n : Int))] 5))
              rw [HX.out.2.1] at this
              exact this
            have HV1 : Hid (View (wr.alloc (.cells #[.int .u8 (192 + (n : Int))] 5)) a g 0 n (fun i => ((gd (form (nest k)) i : Nat) : Int)) ∧ (a = none → c = 0)) := ⟨hv1, hnil⟩
            clear own0 hv1 hv hform hnk hlen hnil hb
            go_wp2_with (refine wpList_append_bytes (by rfl) (.tmp 81) (.tmp 82) (by rfl) wr.heap.size _ 1 _ (by rfl) HO.out a g 0 n c _ (by rfl) HV1.out.1 HV1.out.2 (by omega) (by simp) ?_)
            intro v1 w9 own1 gr1 nn1
            have em : vals (fun i => ((gd (form (nest k)) i : Nat) : Int)) n = bv (form (nest k)) := by rw [← vals_bv, HX.out.2.1]
            have bb : Below w.heap.size w w9 := (ch HX.out.1 (below_alloc _ _)).trans (grown_below gr1 HO.out HX.out.1.size (by have := HX.out.1.size; simp; omega))
            have st : Str w9 (fun _ => True) v1 (form (nest (k + 1))) := ⟨by
              rw [HF.out.1, List.length_append, HX.out.2.1, bv_app, ← em]
              exact own_base own1, fun _ _ => trivial, ⟨by rw [HF.out.1, List.length_append, HX.out.2.1]; simp; omega, fun x hx => by
              rw [HF.out.1] at hx
              rcases List.mem_append.1 hx with hx | hx
              · simp at hx; omega
              · exact HX.out.2.2 x hx⟩⟩
            obtain ⟨a', g', c', e', hc', v', -⟩ := st.view
            have hl' : (form (nest (k + 1))).length = nl (k + 1) := nest_len (k + 1) (by omega)
            rw [hl'] at e' hc'
            have HY2 : Hid (Vw w9 a' g' 0 (form (nest (k + 1))) ∧ nl (k + 1) ≤ c' ∧ (a' = none → c' = 0) ∧ Below w.heap.size w w9) := ⟨v', hc', (fun h => by
              subst h
              subst e'
              exfalso
              have := v'.at_ (by rw [hl', HF.out.2]; omega)
              cases this), bb⟩
            subst e'
            clear own1 gr1 nn1 em bb st hc' v' hl' HO HV1
            go_wp2_with fail
            go_roundg (80 - (k + 1))
            case measure => omega
            case rel => exact ⟨k + 1, a', g', c', hin, rfl, by go_num, rfl, HY2.out.1, HY2.out.2.1, HY2.out.2.2.1, HY2.out.2.2.2⟩
          · have i2 : (56 : Int) ≤ (nl k : Int) := by omega
            rw [hdr_long (by omega) (by omega)] at hform
            rw [if_neg h56] at hnk
            have HF : Hid (form (nest (k + 1)) = [248, nl k] ++ form (nest k) ∧ nl (k + 1) = nl k + 2) := ⟨hform, hnk⟩
            generalize nl k = n at *
            have e1 : (n : Int) % 256 = n := by omega
            have hsz : (wr.alloc (.cells #[.int .u8 (((192 : Int) + n) % 256)] 5)).heap.size = wr.heap.size + 1 := by simp
            have own0 := World.ownsRow_lit (base := wr.heap.size + 1) (e := 5) (size := 1) (wr.alloc (.cells #[.int .u8 (((192 : Int) + n) % 256)] 5)) #[.int .u8 248, .int .u8 (n : Int)] 2 (by simp) (by decide) rfl
            rw [hsz] at own0
            have HO : Hid (((wr.alloc (.cells #[.int .u8 (((192 : Int) + n) % 256)] 5)).alloc (.cells #[.int .u8 248, .int .u8 (n : Int)] 5)).ownsRow (wr.heap.size + 1) 5 1 (.slice (some ⟨wr.heap.size + 1, 0, none⟩) 2 2) 2 [.int .u8 248, .int .u8 (n : Int)]) := own0
            have hv1 : View ((wr.alloc (.cells #[.int .u8 (((192 : Int) + n) % 256)] 5)).alloc (.cells #[.int .u8 248, .int .u8 (n : Int)] 5)) a g 0 n (fun i => ((gd (form (nest k)) i : Nat) : Int)) := by
              have := hv.below (ch (below_alloc wr (.cells #[.int .u8 (((192 : Int) + n) % 256)] 5)) (below_alloc _ (.cells #[.int .u8 248, .int .u8 (n : Int)] 5)))
              rw [HX.out.2.1] at this
              exact this
            have HV1 : Hid (View ((wr.alloc (.cells #[.int .u8 (((192 : Int) + n) % 256)] 5)).alloc (.cells #[.int .u8 248, .int .u8 (n : Int)] 5)) a g 0 n (fun i => ((gd (form (nest k)) i : Nat) : Int)) ∧ (a = none → c = 0)) := ⟨hv1, hnil⟩
            clear own0 hv1 hv hform hnk hlen hnil hb hsz
            go_wp2_with (refine wpList_append_bytes (by rfl) (.tmp 81) (.tmp 82) (by rfl) (wr.heap.size + 1) _ 2 _ (by rfl) HO.out a g 0 n c _ (by rfl) HV1.out.1 HV1.out.2 (by omega) (by simp) ?_)
            intro v1 w9 own1 gr1 nn1
            have em : vals (fun i => ((gd (form (nest k)) i : Nat) : Int)) n = bv (form (nest k)) := by rw [← vals_bv, HX.out.2.1]
            have bb : Below w.heap.size w w9 := (ch (ch HX.out.1 (below_alloc _ _)) (below_alloc _ _)).trans (grown_below gr1 HO.out (by have := HX.out.1.size; simp; omega) (by have := HX.out.1.size; simp; omega))
            have st : Str w9 (fun _ => True) v1 (form (nest (k + 1))) := ⟨by
              rw [HF.out.1, List.length_append, HX.out.2.1, bv_app, ← em]
              exact own_base own1, fun _ _ => trivial, ⟨by rw [HF.out.1, List.length_append, HX.out.2.1]; simp; omega, fun x hx => by
              rw [HF.out.1] at hx
              rcases List.mem_append.1 hx with hx | hx
              · simp at hx; omega
              · exact HX.out.2.2 x hx⟩⟩
            obtain ⟨a', g', c', e', hc', v', -⟩ := st.view
            have hl' : (form (nest (k + 1))).length = nl (k + 1) := nest_len (k + 1) (by omega)
            rw [hl'] at e' hc'
            have HY2 : Hid (Vw w9 a' g' 0 (form (nest (k + 1))) ∧ nl (k + 1) ≤ c' ∧ (a' = none → c' = 0) ∧ Below w.heap.size w w9) := ⟨v', hc', (fun h => by
              subst h
              subst e'
              exfalso
              have := v'.at_ (by rw [hl', HF.out.2]; omega)
              cases this), bb⟩
            subst e'
            clear own1 gr1 nn1 em bb st hc' v' hl' HO HV1
            go_wp2_with fail
            go_roundg (80 - (k + 1))
            case measure => omega
            case rel => exact ⟨k + 1, a', g', c', hin, rfl, by go_num, rfl, HY2.out.1, HY2.out.2.1, HY2.out.2.2.1, HY2.out.2.2.2⟩
        · obtain rfl : k = 80 := by omega
          have i1 : ¬ ((80 : Nat) : Int) < 80 := by decide
          rw [nl80] at hc
          have K1 := decode_any wr a g 0 c _ hv (by rw [hlen, nl80]; exact hc) (by rw [hlen, nl80]; omega)
          rw [hlen, nl80] at K1
          obtain ⟨dX, dP, dE⟩ := decXPE_bad dec80
          have HB7 : Hid (Below w.heap.size w wr) := hb
          have e80 : ((nl 80 : Nat) : Int) = 106 := by rw [nl80]; rfl
          clear hv hc hnil hb hlen hnl
          rw [nl80]
          go_wp2_with fail
          refine K1.mono ?_
          rintro e w7 ⟨vb7, vi7, rfl, o7, b7⟩
          rw [dX] at o7
          rw [dX, dP, dE, show (It.mk false [] []).l = false from rfl]
          obtain ⟨e1, m1', d1, e2, m2', d2, rfl, rfl⟩ := o7.lies.form
          have HB8 : Hid (Below w.heap.size w w7) := ch HB7.out b7
          clear o7 b7 K1 dX dP dE e80
          obtain ⟨C1, eC1⟩ : ∃ C, C = madeCells #[.int .u8 0] 1048572 := ⟨_, rfl⟩
          obtain ⟨C2, eC2⟩ : ∃ C, C = madeCells #[.int .u8 0] 1048573 := ⟨_, rfl⟩
          have hmk1 := run_make_row' (P := Try.prog) 22 5 (.int .u8 0) 1 Try.underlying22 Try.info5 rfl .i64 .i64 1048572 (by omega) (by omega)
          have hmk2 := run_make_row' (P := Try.prog) 22 5 (.int .u8 0) 1 Try.underlying22 Try.info5 rfl .i64 .i64 1048573 (by omega) (by omega)
          simp only [show ((1048572 : Nat) : Int) = 1048572 from rfl, ← eC1] at hmk1
          simp only [show ((1048573 : Nat) : Int) = 1048573 from rfl, ← eC2] at hmk2
          have HC1 : Hid (∀ W : World, (W.alloc (.cells C1 5)).rowIs W.heap.size 5 1048572 (fun _ => .int .u8 0)) := fun W => by rw [eC1]; exact World.rowIs_made W _ _ 5
          have HC2 : Hid (∀ W : World, (W.alloc (.cells C2 5)).rowIs W.heap.size 5 1048573 (fun _ => .int .u8 0)) := fun W => by rw [eC2]; exact World.rowIs_made W _ _ 5
          clear eC1 eC2
          have zs : ∀ n : Nat, ∃ z : List Nat, z.length = n ∧ (∀ x ∈ z, x < 256) ∧ ∀ i, i < n → gd z i = 0 := fun n => ⟨List.replicate n 0, by simp, fun x hx => by rw [List.eq_of_mem_replicate hx]; omega, fun i hi => by
            unfold gd
            rw [List.getD_eq_getElem?_getD, List.getElem?_replicate, if_pos hi]
            rfl⟩
          obtain ⟨z1, l1, k1, g1⟩ := zs 1048572
          obtain ⟨z2, l2, k2, g2⟩ := zs 1048573
          clear zs
          obtain ⟨f1, m1, p1⟩ := enc_zeros l1 (by omega) (by omega)
          obtain ⟨f2, m2, p2⟩ := enc_zeros l2 (by omega) (by omega)
          obtain ⟨X1, eX1⟩ : ∃ X, X = It.mk false z1 [] := ⟨_, rfl⟩
          obtain ⟨X2, eX2⟩ : ∃ X, X = It.mk false z2 [] := ⟨_, rfl⟩
          rw [← eX1] at f1 m1 p1
          rw [← eX2] at f2 m2 p2
          have E1 : encE X1 = 0 := by unfold encE; rw [p1, m1, f1]; decide
          have E1' : enc X1 = form X1 := by unfold enc; rw [if_pos E1]
          have E2 : encE X2 = 54 := by unfold encE; rw [p2, m2, f2]; decide
          have E2' : enc X2 = [] := by unfold enc; rw [E2]; rfl
          have D1 : dec (form X1) = .ok X1 := dec_form m1 (by omega) (by omega)
          have HL1 : Hid (∀ W : World, Lies Vb (W.alloc (.cells C1 5)) X1 (.slice (some ⟨W.heap.size, 0, none⟩) 1048572 1048572) (.slice none 0 0)) := fun W => by
            rw [eX1]
            have hr : Rm (W.alloc (.cells C1 5)) W.heap.size z1 := Rm.of_row (HC1.out W) l1 (fun i hi => by rw [g1 i hi]; rfl)
            have := vb_row (s := z1) hr k1 (by omega)
            rw [l1] at this
            exact lies_str this
          have HL2 : Hid (∀ W : World, Lies Vb (W.alloc (.cells C2 5)) X2 (.slice (some ⟨W.heap.size, 0, none⟩) 1048573 1048573) (.slice none 0 0)) := fun W => by
            rw [eX2]
            have hr : Rm (W.alloc (.cells C2 5)) W.heap.size z2 := Rm.of_row (HC2.out W) l2 (fun i hi => by rw [g2 i hi]; rfl)
            have := vb_row (s := z2) hr k2 (by omega)
            rw [l2] at this
            exact lies_str this
          have HX1 : Hid (X1.l = false ∧ X1.b.length = 1048572 ∧ (form X1).length = 1048576 ∧ dec (form X1) = .ok X1) := ⟨by rw [eX1]; rfl, by rw [eX1]; exact l1, f1, D1⟩
          obtain ⟨w8, e8⟩ : ∃ w8, w8 = w7.alloc (.cells #[.bool false, .slice e1 m1' d1, .slice e2 m2' d2] 25) := ⟨_, rfl⟩
          have K2 := encode_any X1 (w8.alloc (.cells C1 5)) _ _ (HL1.out w8)
          rw [HX1.out.1, E1, E1'] at K2
          have x2l : X2.l = false := by rw [eX2]; rfl
          have K3 := fun W => encode_any X2 (W.alloc (.cells C2 5)) _ _ (HL2.out W)
          simp only [x2l, E2, E2'] at K3
          have HB9 : Hid (Below w.heap.size w (w8.alloc (.cells C1 5)) ∧ w8 = w7.alloc (.cells #[.bool false, .slice e1 m1' d1, .slice e2 m2' d2] 25)) := ⟨by rw [e8]; exact ch (ch HB8.out (below_alloc _ _)) (below_alloc _ _), e8⟩
          have z8 : w8.heap.size = w7.heap.size + 1 := by rw [e8]; simp
          rw [z8] at K2
          clear eX1 eX2 E1 E1' E2 E2' D1 f1 f2 m1 m2 p1 p2 l1 l2 k1 k2 g1 g2 HC1 HC2 HL1 HL2 x2l e8 z8
          go_wp2_with fail
          rw [← HB9.out.2]
          refine K2.mono ?_
          rintro e w10 ⟨vC, rfl, sC, b10⟩
          obtain ⟨aC, cC, eC⟩ := own_slice sC.own
          rw [HX1.out.2.2.1] at eC
          subst eC
          have HFT : Hid (∀ g, (Value.slice aC 1048576 cC).ownBlock = some g → w.heap.size ≤ g ∧ g < w10.heap.size) := fun g hg => ⟨Nat.le_trans HB9.out.1.size (sC.foot g hg), (sC.own.lt g hg).2⟩
          have HB10 : Hid (Below w.heap.size w w10 ∧ Str w10 (fun _ => True) (.slice aC 1048576 cC) (form X1)) := ⟨ch HB9.out.1 b10, ⟨sC.own, fun _ _ => trivial, sC.ok⟩⟩
          clear sC b10 K2 hmk1
          go_wp2_with fail
          refine (K3 w10).mono ?_
          rintro e w11 ⟨v11, rfl, s11, b11⟩
          obtain ⟨a11, g11, c11, rfl, -, -, -⟩ := s11.view
          have bb11 := ch (below_alloc w10 (.cells C2 5)) b11
          have st11 : Str w11 (fun _ => True) (.slice aC 1048576 cC) (form X1) := HB10.out.2.turn (Turn.of_below bb11 (F := fun _ => False)) (fun _ _ _ q => q)
          have HS11 : Hid (w10.heap.size ≤ w11.heap.size) := bb11.size
          have HB11 : Hid (Below w.heap.size w w11 ∧ Str w11 (fun _ => True) (.slice aC 1048576 cC) (form X1)) := ⟨ch HB10.out.1 bb11, st11⟩
          clear s11 b11 bb11 st11 K3 hmk2
          obtain ⟨aC', gC, cC', eC, hcC, vvC, -⟩ := HB11.out.2.view
          rw [HX1.out.2.2.1] at eC hcC
          injection eC with q1 _ q3
          subst q1
          subst q3
          have K4 := decode_any w11 aC gC 0 cC _ vvC (by rw [HX1.out.2.2.1]; exact hcC) (by rw [HX1.out.2.2.1]; omega)
          rw [HX1.out.2.2.1] at K4
          obtain ⟨dX, dP, dE⟩ := decXPE HX1.out.2.2.2
          clear vvC
          go_wp2_with fail
          refine K4.mono ?_
          rintro e w12 ⟨vb12, vi12, rfl, o12, b12⟩
          rw [dX] at o12
          rw [dX, dP, dE, HX1.out.1]
          have hf12 : ∃ av cv, vb12 = .slice av 1048572 cv := by
            have hL := o12.lies
            rw [It.eta X1] at hL
            obtain ⟨q1, q2, _, _, _, _, q3, _⟩ := hL.opened
            rw [HX1.out.2.1] at q3
            exact ⟨q1, q2, q3⟩
          obtain ⟨av12, cv12, rfl⟩ := hf12
          obtain ⟨-, -, -, ai, ni, ci, -, rfl⟩ := o12.lies.form
          obtain ⟨wX, eWX⟩ : ∃ wX, wX = w12.alloc (.cells #[.bool false, .slice av12 1048572 cv12, .slice ai ni ci] 25) := ⟨_, rfl⟩
          have bX : Below w11.heap.size w11 wX := by rw [eWX]; exact ch b12 (below_alloc _ _)
          have stX : Str wX (fun _ => True) (.slice aC 1048576 cC) (form X1) := HB11.out.2.turn (Turn.of_below bX (F := fun _ => False)) (fun _ _ _ q => q)
          have HSX : Hid (w11.heap.size ≤ w12.heap.size) := b12.size
          have HBX2 : Hid (Below w.heap.size w wX ∧ Str wX (fun _ => True) (.slice aC 1048576 cC) (form X1) ∧ wX = w12.alloc (.cells #[.bool false, .slice av12 1048572 cv12, .slice ai ni ci] 25)) := ⟨ch HB11.out.1 bX, stX, eWX⟩
          have own5 : (wX.alloc (.cells #[.int .u8 0] 5)).ownsRow 0 5 1 (.slice aC 1048576 cC) 1048576 (bv (form X1)) := by
            have := stX.own.alloc (.cells #[.int .u8 0] 5)
            rw [HX1.out.2.2.1] at this
            exact this
          have HO5 : Hid ((wX.alloc (.cells #[.int .u8 0] 5)).ownsRow 0 5 1 (.slice aC 1048576 cC) 1048576 (bv (form X1))) := own5
          have hz : w12.heap.size + 1 = wX.heap.size := by rw [eWX]; simp
          have HVZ : Hid (View (wX.alloc (.cells #[.int .u8 0] 5)) (some ⟨w12.heap.size + 1, 0, none⟩) (w12.heap.size + 1) 0 1 (fun _ => 0)) := by
            rw [hz]
            exact view_new1 wX 0 (by omega) (by omega)
          rw [eWX] at HO5 HVZ
          clear o12 b12 K4 dX dP dE bX stX own5 eWX hz hcC
          go_wp2_with (refine wpList_append_bytes (by rfl) (.tmp 121) (.tmp 122) (by rfl) 0 _ 1048576 _ (by rfl) HO5.out (some ⟨w12.heap.size + 1, 0, none⟩) (w12.heap.size + 1) 0 1 1 _ (by rfl) HVZ.out (fun h => by cases h) (by omega) (by simp) ?_)
          intro v13 w13 own13 gr13 nn13
          rw [← HBX2.out.2.2] at gr13
          have bx12 : Bx wX w12.heap.size 25 (.bool false) (.slice av12 1048572 cv12) (.slice ai ni ci) := by
            show _ = _
            rw [HBX2.out.2.2]
            exact heap_alloc_new _ _
          have hlt := bx12.lt
          have nb : ∀ g, (Value.slice aC 1048576 cC).ownBlock = some g → g < w12.heap.size := fun g hg => by
            have := (HFT.out g hg).2
            have := HS11.out
            have := HSX.out
            omega
          have bx13 : Bx w13 w12.heap.size 25 (.bool false) (.slice av12 1048572 cv12) (.slice ai ni ci) := bx12.keep ((gr13.block _ (by simp; omega) (fun e => by have := nb _ e.symm; omega)).trans (heap_alloc_old _ _ hlt))
          have b13 : Below w.heap.size w w13 := (ch HBX2.out.1 (below_alloc wX (.cells #[.int .u8 0] 5))).trans ⟨gr13.os, gr13.tape, gr13.output, gr13.size, fun k hk => gr13.block k (by have := HBX2.out.1.size; simp; omega) (fun e => by have := (HFT.out k e.symm).1; omega)⟩
          have l13 : (form X1 ++ [0]).length = 1048577 := by rw [List.length_append, HX1.out.2.2.1]; rfl
          have st13 : Str w13 (fun _ => True) v13 (form X1 ++ [0]) := ⟨by
            rw [l13, bv_app]
            exact own13, fun _ _ => trivial, ⟨by rw [l13]; omega, fun x hx => by
            rcases List.mem_append.1 hx with hx | hx
            · exact HB11.out.2.ok.2 x hx
            · simp at hx; omega⟩⟩
          obtain ⟨a13, g13, c13, e13, hc13, vv13, -⟩ := st13.view
          rw [l13] at e13 hc13
          subst e13
          have K5 := decode_any w13 a13 g13 0 c13 _ vv13 (by rw [l13]; exact hc13) (by rw [l13]; omega)
          rw [l13] at K5
          have d13 : dec (form X1 ++ [0]) = .bad 0 54 := by unfold dec; rw [if_pos (by rw [l13]; omega)]
          obtain ⟨dX, dP, dE⟩ := decXPE_bad d13
          have HB13 : Hid (Below w.heap.size w w13 ∧ Bx w13 w12.heap.size 25 (.bool false) (.slice av12 1048572 cv12) (.slice ai ni ci)) := ⟨b13, bx13⟩
          clear own13 gr13 nn13 bx12 hlt nb bx13 b13 st13 hc13 vv13 d13 l13 HO5 HVZ
          go_wp2_with fail
          refine K5.mono ?_
          rintro e w14 ⟨vb14, vi14, rfl, o14, b14⟩
          rw [dX] at o14
          rw [dX, dP, dE]
          obtain ⟨t0, t1, t2, -⟩ := (HB13.out.2.keep (b14.block _ HB13.out.2.lt)).cells
          obtain ⟨e1, m1, d1, e2, m2, d2, rfl, rfl⟩ := o14.lies.form
          have HB14 : Hid (Below w.heap.size w w14) := ch HB13.out.1 b14
          clear o14 b14 K5 dX dP dE
          go_wp2_with fail
          go_ret
          exact ⟨rfl, HB14.out⟩
end Go.Proofs.Ytlpmcdnhnhgmpaa
