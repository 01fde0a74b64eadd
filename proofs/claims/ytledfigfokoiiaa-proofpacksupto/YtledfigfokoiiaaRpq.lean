import Derived.Test.YtledfigfokoiiaaFhq
import Derived.Test.YtledfigfokoiiaaUnq
/-
  cairnref15: Pack.
-/
namespace Go.Proofs.Ytledfigfokoiiaa
open Go.RowKit
theorem hdr_len16 {base n : Nat} (hn : n ≤ 1099511627776) : (hdr base n).length ≤ 16 := by
  have := digs_len_le (n := n) (k := 6) (by omega)
  unfold hdr
  split <;> simp <;> omega
theorem hdr_len3 {base n : Nat} (hn : n ≤ 1024) : (hdr base n).length ≤ 3 := by
  have := digs_len_le (n := n) (k := 2) (by omega)
  unfold hdr
  split <;> simp <;> omega
theorem forms_it {L : List (List Nat)} {k : Nat} {s : List Nat} (h : L[k]? = some s) : forms (its (L.take (k + 1))) = forms (its (L.take k)) ++ form (.mk false s []) := by
  rw [List.take_add_one, h]
  show forms (its (L.take k ++ [s])) = _
  unfold its
  rw [List.map_append, forms_app]
  show _ ++ forms [It.mk false s []] = _
  rw [forms_cons, forms_nil, List.append_nil]
theorem form_le4 {s : List Nat} (h : 0 < s.length ∧ s.length ≤ 1024) : (form (.mk false s [])).length ≤ 4 * s.length := by
  rw [form_mk]
  simp only [Bool.false_eq_true, if_false]
  split
  · omega
  · have := hdr_len3 (base := 128) h.2
    rw [List.length_append]
    omega
theorem form_lt1 {s : List Nat} (h : s.length ≤ 1024) (hs : ∀ x ∈ s, x < 256) : ∀ x ∈ form (.mk false s []), x < 256 := by
  intro x hx
  rw [form_mk] at hx
  simp only [Bool.false_eq_true, if_false] at hx
  split at hx
  · exact hs x hx
  · rcases List.mem_append.1 hx with hx | hx
    · exact hdr_lt (by omega) (by omega) x hx
    · exact hs x hx
theorem alone_not {s : List Nat} (h : 0 < s.length) : alone s = false ↔ (1 < s.length ∨ 128 ≤ gd s 0) := by
  unfold alone
  by_cases h1 : s.length = 1
  · rw [decide_eq_true h1]
    simp
    omega
  · rw [decide_eq_false h1]
    simp
    omega
/-- the bytes appended -/
theorem own_more {w : World} {B n : Nat} {v : Value} {b t : List Nat} (h : w.ownsRow B 5 1 v (b.length + n) (bv b ++ vals (fun i => ((gd t i : Nat) : Int)) n)) (e : n = t.length) : w.ownsRow B 5 1 v (b ++ t).length (bv (b ++ t)) := by
  subst e
  rw [List.length_append, bv_app, ← vals_bv t]
  exact h
theorem own_view {w : World} {B : Nat} {v : Value} {b : List Nat} (h : w.ownsRow B 5 1 v b.length (bv b)) (hs : ∀ x ∈ b, x < 256) (hl : b.length ≤ 140737488351232) : ∃ a g off c, v = .slice a b.length c ∧ Vw w a g off b ∧ (a = none → c = 0) := by
  obtain ⟨a, g, off, c, e, hv, _, hn, _⟩ := vb_of_own h rfl hs hl
  exact ⟨a, g, off, c, e, hv, hn⟩
set_option maxRecDepth 100000 in
set_option maxHeartbeats 6400000 in
theorem rpack_any (w : World) (v : Value) (L : List (List Nat)) (h : Lv w v L) : Calls Try.prog 12 #[v] w (PkPost L w) := by
  obtain ⟨a, c, rfl⟩ := h.form
  obtain ⟨n, en⟩ : ∃ n, n = L.length := ⟨_, rfl⟩
  have HN : Hid (n = L.length ∧ L.take n = L) := ⟨en, by rw [en]; exact List.take_length⟩
  have hn : n ≤ 8796093022208 := by
    obtain ⟨_, _, _, _, _, _, _, _, _, _, _, h6⟩ := h
    omega
  rw [← en] at h ⊢
  have HL : Hid (Lv w (.slice a n c) L) := h
  clear h en
  go_enter Try.func12, Try.ntmps12
  go_wp2_with fail
  go_loopg [4, 5] n (fun g t i wr => ∃ k : Nat, k ≤ n ∧ g = n - k ∧ i = .int .i64 k ∧ t = .int .i64 (tot (L.take k) : Nat) ∧ tot (L.take k) ≤ 132096 ∧ k ≤ tot (L.take k) ∧ (∀ (j : Nat) (s : List Nat), j < k → L[j]? = some s → ok1 s = true) ∧ wr = w)
  case atStart => exact ⟨0, Nat.zero_le _, rfl, rfl, by simp [tot], by simp [tot], by simp [tot], fun j s hj => by omega, rfl⟩
  case round =>
    obtain ⟨k, hk, rfl, rfl, rfl, ht, hkt, hok, hwr⟩ := hrel
    subst wr
    have HOK : Hid (∀ (j : Nat) (s : List Nat), j < k → L[j]? = some s → ok1 s = true) := hok
    clear hok
    by_cases hkn : k < n
    · have i1 : (k : Int) < (n : Int) := by omega
      obtain ⟨b, off, rfl, au, m, cu, s, d0, hs, em, hvb⟩ := HL.out.nth hkn
      have et := tot_take hs
      obtain ⟨T, eT⟩ : ∃ T, T = tot (L.take k) := ⟨_, rfl⟩
      rw [← em, ← eT] at et
      rw [← eT] at ht hkt ⊢
      have HS : Hid (L[k]? = some s ∧ m = s.length ∧ tot (L.take (k + 1)) = T + m ∧ T = tot (L.take k)) := ⟨hs, em, et, eT⟩
      have hml : m ≤ 140737488351232 := by
        obtain ⟨_, _, _, _, _, _, _, _, q⟩ := hvb
        omega
      clear hvb hs em et eT
      by_cases h1 : m < 1
      · have i2 : (m : Int) < 1 := by omega
        obtain ⟨e1, e2⟩ := pf_no1 (L := L) (k := k) (s := s) HS.out.1 (by unfold ok1; rw [decide_eq_false (by have := HS.out.2.1; omega)]; rfl)
        unfold PkPost
        rw [e1, e2]
        clear e1 e2
        go_wp2_with fail
        go_ret2
        exact ⟨_, rfl, str_nil _ _, Below.refl _ _⟩
      · have i2 : ¬ (m : Int) < 1 := by omega
        by_cases h2 : m ≤ 1024
        · have i3 : ¬ (1024 : Int) < (m : Int) := by omega
          by_cases h3 : T ≤ 131072
          · have i4 : ¬ (131072 : Int) < (T : Int) := by omega
            go_wp2_with fail
            go_roundg (n - (k + 1))
            case measure => omega
            case rel =>
              refine ⟨k + 1, by omega, rfl, by go_num, ?_, ?_, ?_, fun j s' hj hs' => ?_, rfl⟩
              · rw [HS.out.2.2.1]
                congr 1
              · rw [HS.out.2.2.1]; omega
              · rw [HS.out.2.2.1]; omega
              · by_cases e : j = k
                · subst e
                  have : s' = s := by have := HS.out.1; rw [hs'] at this; exact Option.some.inj this
                  subst this
                  exact ok1_iff.2 (by rw [← HS.out.2.1]; omega)
                · exact HOK.out j s' (by omega) hs'
          · have i4 : (131072 : Int) < (T : Int) := by omega
            obtain ⟨e1, e2⟩ := pf_no2 (L := L) (k := k) (by have := HS.out.2.2.2; omega)
            unfold PkPost
            rw [e1, e2]
            clear e1 e2
            go_wp2_with fail
            go_ret2
            exact ⟨_, rfl, str_nil _ _, Below.refl _ _⟩
        · have i3 : (1024 : Int) < (m : Int) := by omega
          obtain ⟨e1, e2⟩ := pf_no1 (L := L) (k := k) (s := s) HS.out.1 (by unfold ok1; rw [decide_eq_false (show ¬ s.length ≤ 1024 by have := HS.out.2.1; omega)]; simp)
          unfold PkPost
          rw [e1, e2]
          clear e1 e2
          go_wp2_with fail
          go_ret2
          exact ⟨_, rfl, str_nil _ _, Below.refl _ _⟩
    · have i1 : ¬ (k : Int) < (n : Int) := by omega
      have ek : k = n := by omega
      subst ek
      rw [HN.out.2] at ht hkt ⊢
      obtain ⟨T, eT⟩ : ∃ T, T = tot L := ⟨_, rfl⟩
      have HT : Hid (T = tot L) := eT
      rw [← eT] at ht hkt ⊢
      clear eT
      by_cases h3 : T ≤ 131072
      · have i4 : ¬ (131072 : Int) < (T : Int) := by omega
        have hokL : okL L = true := okL_of (fun i s hi => HOK.out i s (by have := (List.getElem?_eq_some_iff.1 hi).1; have := HN.out.1; omega) hi)
        have HOL : Hid (okL L = true) := hokL
        clear hokL HOK
        go_wp2_with fail
        go_loopg [6, 7] k (fun g v i w1 => ∃ (j : Nat) (b : List Nat), j ≤ k ∧ g = k - j ∧ i = .int .i64 j ∧ b = forms (its (L.take j)) ∧ b.length ≤ 4 * tot (L.take j) ∧ (∀ x ∈ b, x < 256) ∧ w1.ownsRow w.heap.size 5 1 v b.length (bv b) ∧ Below w.heap.size w w1)
        case atStart => exact ⟨0, [], Nat.zero_le _, rfl, rfl, by simp [its, forms_nil], by simp, by simp, ⟨rfl, Or.inl ⟨rfl, rfl⟩⟩, Below.refl _ _⟩
        case round =>
          obtain ⟨j, b, hj, rfl, rfl, eb, hbl, hbb, hown, hbel⟩ := hrel
          have hT := tot_take_le L j
          rw [← HT.out] at hT
          obtain ⟨ab, cb, ev⟩ := own_slice hown
          subst ev
          have HB : Hid (b = forms (its (L.take j)) ∧ (∀ x ∈ b, x < 256) ∧ wr.ownsRow w.heap.size 5 1 (.slice ab b.length cb) b.length (bv b) ∧ Below w.heap.size w wr) := ⟨eb, hbb, hown, hbel⟩
          obtain ⟨N, eN⟩ : ∃ N, N = b.length := ⟨_, rfl⟩
          have HNb : Hid (N = b.length) := eN
          have HBL : Hid (b.length ≤ 4 * tot (L.take j)) := hbl
          have hN : N ≤ 524288 := by omega
          rw [← eN] at HB ⊢
          clear eb hbb hown hbel hbl eN
          by_cases hjk : j < k
          · have i5 : (j : Int) < (k : Int) := by omega
            obtain ⟨b0, off, rfl, au, m, cu, s, d0, hs, em, hvb⟩ := HL.out.nth hjk
            obtain ⟨hm0, hm1⟩ := okL_at HOL.out hs
            rw [← em] at hm0 hm1
            have hvb' := hvb.keep HB.out.2.2.2
            have hso := hvb.ok
            obtain ⟨a1, b1, o1, c1, e1, hv, _, hnil, _⟩ := hvb'
            injection e1 with z1 z2 z3
            subst z1
            subst z3
            obtain rfl := hv.at_ (by omega)
            have c0 := hv.cell 0 (by omega)
            rw [Nat.add_zero] at c0
            have d1 : wr.cell? ⟨b0, off + j, none⟩ = some (.slice (some ⟨b1, o1, none⟩) m cu) := (HB.out.2.2.2.cell (World.block_lt_of_cell? _ _ d0)).trans d0
            have HV : Hid (∀ w', Below wr.heap.size wr w' → View w' (some ⟨b1, o1, none⟩) b1 o1 m (fun i => ((gd s i : Nat) : Int))) := fun w' q => by
              have := hv.below q
              rwa [← em] at this
            have HVW : Hid (∀ w', Below w.heap.size w w' → View w' (some ⟨b1, o1, none⟩) b1 o1 m (fun i => ((gd s i : Nat) : Int))) := fun w' q => by
              obtain ⟨a1', b1', o1', c1', e1', hv', _⟩ := hvb
              injection e1' with z1' z2' z3'
              have ez := hv'.at_ (by omega)
              rw [← z1'] at ez
              injection ez with ez
              injection ez with ez1 ez2
              subst ez1
              subst ez2
              have := hv'.below q
              rw [← z1', ← em] at this
              exact this
            have HS : Hid (L[j]? = some s ∧ m = s.length ∧ ∀ x ∈ s, x < 256) := ⟨hs, em, hso⟩
            have HD : Hid (w.cell? ⟨b0, off + j, none⟩ = some (.slice (some ⟨b1, o1, none⟩) m cu)) := d0
            have HX : Hid (forms (its (L.take (j + 1))) = b ++ form (.mk false s []) ∧ (b ++ form (.mk false s [])).length ≤ 4 * tot (L.take (j + 1)) ∧ ∀ x ∈ b ++ form (.mk false s []), x < 256) := by
              refine ⟨by rw [HB.out.1]; exact forms_it hs, ?_, fun x hx => ?_⟩
              · rw [List.length_append, tot_take hs]
                have := form_le4 (s := s) (by omega)
                have := HBL.out
                omega
              · rcases List.mem_append.1 hx with hx | hx
                · exact HB.out.2.1 x hx
                · exact form_lt1 (by omega) hso x hx
            have hal := alone_not (s := s) (by omega)
            rw [← em] at hal
            have hd4 : N ≤ 524288 := hN
            generalize hg : gd s 0 = x0 at c0 hal
            clear hv hvb hs em hso d0 hnil hg z2
            by_cases h1 : 1 < m
            · have i6 : (1 : Int) < (m : Int) := by omega
              have ha : alone s = false := hal.2 (Or.inl h1)
              have KH := header_any wr 128 m (by omega) (by omega)
              obtain ⟨hl, ehl⟩ : ∃ hl, hl = (hdr 128 m).length := ⟨_, rfl⟩
              have hl16 : hl ≤ 16 := by rw [ehl]; exact hdr_len16 (by omega)
              rw [← ehl] at KH
              have HHL : Hid (hl = (hdr 128 m).length) := ehl
              have HF : Hid (form (.mk false s []) = hdr 128 m ++ s) := by show _ = _; rw [form_mk, HS.out.2.1]; simp [ha]
              have HHB : Hid (∀ x ∈ hdr 128 m, x < 256) := hdr_lt (by omega) (by omega)
              clear ha hal ehl
              go_wp2_with (first
                | (go_at_call 20; refine KH.mono ?_; rintro e w2 ⟨v2, rfl, ho2, b2, hn2⟩; obtain ⟨a2, g2, o2, c2, e2, V2, nl2⟩ := own_view (b := hdr 128 m) (by rw [← HHL.out]; exact ho2) HHB.out (by rw [← HHL.out]; omega); subst e2; rw [← HHL.out]; have V2' : View w2 a2 g2 o2 hl (fun i => ((gd (hdr 128 m) i : Nat) : Int)) := (by rw [HHL.out]; exact V2); have hown2 := own_turn HB.out.2.2.1 (Turn.of_below (F := fun _ => False) b2) (fun _ _ q => q); have HB2 : Hid (Below wr.heap.size wr w2) := b2; have s2 : w.heap.size ≤ w2.heap.size := Nat.le_trans HB.out.2.2.2.size b2.size; clear b2 KH V2 ho2)
                | (refine wpList_append_bytes (by rfl) (.tmp 63) (.tmp 69) (by rfl) w.heap.size _ N (bv b) (by rfl) hown2 a2 g2 o2 hl c2 _ (by rfl) V2' nl2 (by omega) s2 ?_; intro v3 w3 own3 gr3 nn3; have HZ3 : Hid (w3.ownsRow w.heap.size 5 1 v3 (N + hl) (bv (b ++ hdr 128 m)) ∧ Below w.heap.size w w3) := ⟨by have := own_more (b := b) (t := hdr 128 m) (by rw [← HNb.out]; exact own3) HHL.out; rwa [List.length_append, ← HNb.out, ← HHL.out] at this, (ch HB.out.2.2.2 HB2.out).trans (grown_below gr3 hown2 (Nat.le_refl _) s2)⟩; obtain ⟨a3, c3, e3⟩ := own_slice own3; subst e3; have hown3 := HZ3.out.1; have V3 := HVW.out w3 HZ3.out.2; have s3 := HZ3.out.2.size; have d3 : w3.cell? ⟨b0, off + j, none⟩ = some (.slice (some ⟨b1, o1, none⟩) m cu) := (HZ3.out.2.cell (World.block_lt_of_cell? _ _ HD.out)).trans HD.out; clear own3 gr3 nn3 V2' hown2 s2)
                | (refine wpList_append_bytes (by rfl) (.tmp 71) (.tmp 75) (by rfl) w.heap.size _ (N + hl) _ (by rfl) hown3 (some ⟨b1, o1, none⟩) b1 o1 m cu _ (by rfl) V3 (fun h => by cases h) (by omega) s3 ?_; intro v9 w9 own9 gr9 nn9; have HZ : Hid (w9.ownsRow w.heap.size 5 1 v9 (b ++ form (.mk false s [])).length (bv (b ++ form (.mk false s []))) ∧ Below w.heap.size w w9) := ⟨by rw [HF.out, ← List.append_assoc]; exact own_more (by rw [List.length_append, ← HNb.out, ← HHL.out]; exact own9) HS.out.2.1, HZ3.out.2.trans (grown_below gr9 hown3 (Nat.le_refl _) s3)⟩; clear own9 gr9 nn9 hown3 s3 V3))
              go_roundg (k - (j + 1))
              case measure => omega
              case rel => exact ⟨j + 1, b ++ form (.mk false s []), by omega, rfl, by go_num, HX.out.1.symm, HX.out.2.1, HX.out.2.2, HZ.out.1, HZ.out.2⟩
            · have i6 : ¬ (1 : Int) < (m : Int) := by omega
              by_cases h2 : 128 ≤ x0
              · have i7 : (128 : Int) ≤ (x0 : Int) := by omega
                have ha : alone s = false := hal.2 (Or.inr h2)
                have KH := header_any wr 128 m (by omega) (by omega)
                obtain ⟨hl, ehl⟩ : ∃ hl, hl = (hdr 128 m).length := ⟨_, rfl⟩
                have hl16 : hl ≤ 16 := by rw [ehl]; exact hdr_len16 (by omega)
                rw [← ehl] at KH
                have HHL : Hid (hl = (hdr 128 m).length) := ehl
                have HF : Hid (form (.mk false s []) = hdr 128 m ++ s) := by show _ = _; rw [form_mk, HS.out.2.1]; simp [ha]
                have HHB : Hid (∀ x ∈ hdr 128 m, x < 256) := hdr_lt (by omega) (by omega)
                clear ha hal ehl
                go_wp2_with (first
                  | (go_at_call 20; refine KH.mono ?_; rintro e w2 ⟨v2, rfl, ho2, b2, hn2⟩; obtain ⟨a2, g2, o2, c2, e2, V2, nl2⟩ := own_view (b := hdr 128 m) (by rw [← HHL.out]; exact ho2) HHB.out (by rw [← HHL.out]; omega); subst e2; rw [← HHL.out]; have V2' : View w2 a2 g2 o2 hl (fun i => ((gd (hdr 128 m) i : Nat) : Int)) := (by rw [HHL.out]; exact V2); have hown2 := own_turn HB.out.2.2.1 (Turn.of_below (F := fun _ => False) b2) (fun _ _ q => q); have HB2 : Hid (Below wr.heap.size wr w2) := b2; have s2 : w.heap.size ≤ w2.heap.size := Nat.le_trans HB.out.2.2.2.size b2.size; clear b2 KH V2 ho2)
                  | (refine wpList_append_bytes (by rfl) (.tmp 63) (.tmp 69) (by rfl) w.heap.size _ N (bv b) (by rfl) hown2 a2 g2 o2 hl c2 _ (by rfl) V2' nl2 (by omega) s2 ?_; intro v3 w3 own3 gr3 nn3; have HZ3 : Hid (w3.ownsRow w.heap.size 5 1 v3 (N + hl) (bv (b ++ hdr 128 m)) ∧ Below w.heap.size w w3) := ⟨by have := own_more (b := b) (t := hdr 128 m) (by rw [← HNb.out]; exact own3) HHL.out; rwa [List.length_append, ← HNb.out, ← HHL.out] at this, (ch HB.out.2.2.2 HB2.out).trans (grown_below gr3 hown2 (Nat.le_refl _) s2)⟩; obtain ⟨a3, c3, e3⟩ := own_slice own3; subst e3; have hown3 := HZ3.out.1; have V3 := HVW.out w3 HZ3.out.2; have s3 := HZ3.out.2.size; have d3 : w3.cell? ⟨b0, off + j, none⟩ = some (.slice (some ⟨b1, o1, none⟩) m cu) := (HZ3.out.2.cell (World.block_lt_of_cell? _ _ HD.out)).trans HD.out; clear own3 gr3 nn3 V2' hown2 s2)
                  | (refine wpList_append_bytes (by rfl) (.tmp 71) (.tmp 75) (by rfl) w.heap.size _ (N + hl) _ (by rfl) hown3 (some ⟨b1, o1, none⟩) b1 o1 m cu _ (by rfl) V3 (fun h => by cases h) (by omega) s3 ?_; intro v9 w9 own9 gr9 nn9; have HZ : Hid (w9.ownsRow w.heap.size 5 1 v9 (b ++ form (.mk false s [])).length (bv (b ++ form (.mk false s []))) ∧ Below w.heap.size w w9) := ⟨by rw [HF.out, ← List.append_assoc]; exact own_more (by rw [List.length_append, ← HNb.out, ← HHL.out]; exact own9) HS.out.2.1, HZ3.out.2.trans (grown_below gr9 hown3 (Nat.le_refl _) s3)⟩; clear own9 gr9 nn9 hown3 s3 V3))
                go_roundg (k - (j + 1))
                case measure => omega
                case rel => exact ⟨j + 1, b ++ form (.mk false s []), by omega, rfl, by go_num, HX.out.1.symm, HX.out.2.1, HX.out.2.2, HZ.out.1, HZ.out.2⟩
              · have i7 : ¬ (128 : Int) ≤ (x0 : Int) := by omega
                have ha : alone s = true := by
                  cases hq : alone s with
                  | true => rfl
                  | false => have := hal.1 hq; omega
                have HF : Hid (form (.mk false s []) = s) := by show _ = _; rw [form_mk]; simp [ha]
                have hown := HB.out.2.2.1
                have sz := HB.out.2.2.2.size
                clear ha hal
                go_wp2_with (refine wpList_append_bytes (by rfl) (.tmp 71) (.tmp 75) (by rfl) w.heap.size _ N (bv b) (by rfl) hown (some ⟨b1, o1, none⟩) b1 o1 m cu _ (by rfl) (HV.out wr (Below.refl _ _)) (fun h => by cases h) (by omega) sz ?_)
                intro v9 w9 own9 gr9 nn9
                have HZ : Hid (w9.ownsRow w.heap.size 5 1 v9 (b ++ form (.mk false s [])).length (bv (b ++ form (.mk false s []))) ∧ Below w.heap.size w w9) := ⟨by rw [HF.out]; exact own_more (by rw [← HNb.out]; exact own9) HS.out.2.1, HB.out.2.2.2.trans (grown_below gr9 hown (Nat.le_refl _) sz)⟩
                clear own9 gr9 nn9 hown sz
                go_wp2_with fail
                go_roundg (k - (j + 1))
                case measure => omega
                case rel => exact ⟨j + 1, b ++ form (.mk false s []), by omega, rfl, by go_num, HX.out.1.symm, HX.out.2.1, HX.out.2.2, HZ.out.1, HZ.out.2⟩
          · have i5 : ¬ (j : Int) < (k : Int) := by omega
            have ej : j = k := by omega
            subst ej
            have eb : b = forms (its L) := by have := HB.out.1; rwa [HN.out.2] at this
            have KH := header_any wr 192 N (by omega) (by omega)
            have HFL : Hid (form (lit L) = hdr 192 N ++ b) := by
              show _ = _
              unfold lit
              rw [form_mk, if_pos rfl, ← eb, ← HNb.out]
            obtain ⟨hl, ehl⟩ : ∃ hl, hl = (hdr 192 N).length := ⟨_, rfl⟩
            have hl16 : hl ≤ 16 := by rw [ehl]; exact hdr_len16 (by omega)
            rw [← ehl] at KH
            have HHL : Hid (hl = (hdr 192 N).length) := ehl
            have vbb := vb_of_own HB.out.2.2.1 (by rw [HNb.out]) HB.out.2.1 (by omega)
            obtain ⟨a1, b1, o1, c1, e1, hv, _, hnil, _⟩ := vbb
            injection e1 with z1 z2 z3
            subst z1
            subst z3
            have HV : Hid ((∀ w', Below wr.heap.size wr w' → View w' ab b1 o1 N (fun i => ((gd b i : Nat) : Int))) ∧ (ab = none → cb = 0)) := ⟨fun w' q => by
              have := hv.below q
              rwa [← HNb.out] at this, hnil⟩
            clear eb ehl hv hnil z2
            obtain ⟨M, eM⟩ : ∃ M, M = hl + N := ⟨_, rfl⟩
            have HM : Hid (M = hl + N) := eM
            have HFN : Hid ((form (lit L)).length = M) := by show _ = _; rw [HFL.out, List.length_append, ← HHL.out, ← HNb.out, eM]
            have hM : M ≤ 1048576 := by omega
            clear eM
            by_cases h9 : M ≤ 131072
            · have i9 : ¬ (131072 : Int) < (M : Int) := by omega
              have HP : Hid (pfE L = 0 ∧ pf L = form (lit L)) := pf_ok HOL.out (by have := HFN.out; omega)
              go_wp2_with (first
                | (go_at_call 20; refine KH.mono ?_; rintro e w2 ⟨v2, rfl, ho2, b2, hn2⟩; have V2 := HV.out.1 w2 b2; have HB2 : Hid (Below wr.heap.size wr w2) := b2; have s2 := b2.size; clear b2 KH)
                | (refine wpList_append_bytes (by rfl) (.tmp 79) (.tmp 80) (by rfl) wr.heap.size v2 hl _ (by rfl) ho2 ab b1 o1 N cb _ (by rfl) V2 HV.out.2 (by omega) s2 ?_; intro v9 w9 own9 gr9 nn9; have HZ : Hid (w9.ownsRow wr.heap.size 5 1 v9 (form (lit L)).length (bv (form (lit L))) ∧ Below wr.heap.size wr w9) := ⟨by rw [HFL.out]; exact own_more (by rw [← HHL.out]; exact own9) HNb.out, HB2.out.trans (grown_below gr9 ho2 (Nat.le_refl _) s2)⟩; rw [← HM.out] at own9; obtain ⟨a9, c9, e9⟩ := own_slice own9; subst e9; clear own9 gr9 nn9 ho2 V2))
              go_ret2
              refine ⟨_, by rw [HP.out.1]; rfl, ?_, ch HB.out.2.2.2 HZ.out.2⟩
              rw [HP.out.2]
              have hz := HZ.out.1
              rw [HFN.out] at hz
              have hby : ∀ x ∈ form (lit L), x < 256 := fun x hx => by
                rw [HFL.out] at hx
                rcases List.mem_append.1 hx with hx | hx
                · exact hdr_lt (by omega) (by omega) x hx
                · exact HB.out.2.1 x hx
              refine ⟨by rw [HFN.out]; exact own_base hz, fun g hg => ?_, ⟨by rw [HFN.out]; omega, hby⟩⟩
              have := (hz.lt g hg).1
              have := HB.out.2.2.2.size
              omega
            · have i9 : (131072 : Int) < (M : Int) := by omega
              have HP : Hid (pfE L = 2 ∧ pf L = []) := pf_bad (fun q => by have := HFN.out; omega)
              go_wp2_with (first
                | (go_at_call 20; refine KH.mono ?_; rintro e w2 ⟨v2, rfl, ho2, b2, hn2⟩; have V2 := HV.out.1 w2 b2; have HB2 : Hid (Below wr.heap.size wr w2) := b2; have s2 := b2.size; clear b2 KH)
                | (refine wpList_append_bytes (by rfl) (.tmp 79) (.tmp 80) (by rfl) wr.heap.size v2 hl _ (by rfl) ho2 ab b1 o1 N cb _ (by rfl) V2 HV.out.2 (by omega) s2 ?_; intro v9 w9 own9 gr9 nn9; have HZ : Hid (w9.ownsRow wr.heap.size 5 1 v9 (form (lit L)).length (bv (form (lit L))) ∧ Below wr.heap.size wr w9) := ⟨by rw [HFL.out]; exact own_more (by rw [← HHL.out]; exact own9) HNb.out, HB2.out.trans (grown_below gr9 ho2 (Nat.le_refl _) s2)⟩; rw [← HM.out] at own9; obtain ⟨a9, c9, e9⟩ := own_slice own9; subst e9; clear own9 gr9 nn9 ho2 V2))
              go_ret2
              exact ⟨_, by rw [HP.out.1]; rfl, by rw [HP.out.2]; exact str_nil _ _, ch HB.out.2.2.2 HZ.out.2⟩
      · have i4 : (131072 : Int) < (T : Int) := by omega
        have HF : Hid (pfE L = 2 ∧ pf L = []) := pf_no2 (L := L) (k := k) (by rw [HN.out.2]; have := HT.out; omega)
        go_wp2_with fail
        go_ret2
        exact ⟨_, by rw [HF.out.1]; rfl, by rw [HF.out.2]; exact str_nil _ _, Below.refl _ _⟩
end Go.Proofs.Ytledfigfokoiiaa
