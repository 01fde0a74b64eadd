import Derived.Test.YtledfigfokoiiaaRaq
/-
  ProofPacks: the law, walked.
-/
namespace Go.Proofs.Ytledfigfokoiiaa
open Go.RowKit
def rep {α : Type} (L : List α) : Nat → List α
  | 0 => []
  | k + 1 => rep L k ++ L
theorem rep_len {α : Type} (L : List α) (k : Nat) : (rep L k).length = k * L.length := by
  induction k with
  | zero => simp [rep]
  | succ k ih => rw [rep, List.length_append, ih, Nat.succ_mul]
theorem rep_at {α β : Type} {A : List α} {B : List β} {P : α → β → Prop} (hl : A.length = B.length) (h : ∀ (i : Nat) (u : α) (s : β), A[i]? = some u → B[i]? = some s → P u s) (k : Nat) : ∀ (i : Nat) (u : α) (s : β), (rep A k)[i]? = some u → (rep B k)[i]? = some s → P u s := by
  induction k with
  | zero => intro i u s hu; simp [rep] at hu
  | succ k ih =>
    intro i u s hu hs
    rw [rep] at hu hs
    have e : (rep A k).length = (rep B k).length := by rw [rep_len, rep_len, hl]
    by_cases hi : i < (rep A k).length
    · rw [List.getElem?_append_left hi] at hu
      rw [List.getElem?_append_left (by omega)] at hs
      exact ih i u s hu hs
    · rw [List.getElem?_append_right (by omega)] at hu
      rw [List.getElem?_append_right (by omega), ← e] at hs
      exact h _ u s hu hs
theorem rep_mem {α : Type} {L : List α} {P : α → Prop} (h : ∀ u ∈ L, P u) (k : Nat) : ∀ u ∈ rep L k, P u := by
  induction k with
  | zero => intro u hu; cases hu
  | succ k ih =>
    intro u hu
    rcases List.mem_append.1 hu with hu | hu
    · exact ih u hu
    · exact h u hu
/-- what the law has made of the list: it is taken k times -/
structure Al (w wr : World) (v : Value) (k : Nat) (Us : List Value) : Prop where
  own : wr.ownsRow w.heap.size 23 1 v (k * Us.length) (rep Us k)
  below : Below w.heap.size w wr
theorem Al.lv {w wr : World} {v : Value} {k : Nat} {Us : List Value} {L : List (List Nat)} (h : Al w wr v k Us) (hl : Us.length = L.length) (hv : ∀ (i : Nat) (u : Value) (s : List Nat), Us[i]? = some u → L[i]? = some s → Vb w u s) (hb : (rep L k).length ≤ 8796093022208) : Lv wr v (rep L k) := by
  have hu := rep_at (P := fun u s => Vb wr u s) hl (fun i u s hu hs => (hv i u s hu hs).keep h.below) k
  have e : (rep L k).length = k * Us.length := by rw [rep_len, hl]
  have eu : (rep Us k).length = (rep L k).length := by rw [rep_len, rep_len, hl]
  rcases h.own.2 with ⟨rfl, h0⟩ | ⟨g, cap, cur, rfl, hB, hg, h1, h2, h3, h4⟩
  · exact ⟨none, 0, 0, 0, rep Us k, by rw [e, h0], eu, fun q => by omega, fun i u hi => by have := (List.getElem?_eq_some_iff.1 hi).1; omega, hu, by omega, hb⟩
  · refine ⟨_, g, 0, cap, rep Us k, by rw [e], eu, fun _ => rfl, fun i u hi => ?_, hu, by omega, hb⟩
    have := h.own.cells (g := g) rfl i u hi
    rw [add_flat] at this
    rw [Nat.zero_add]
    exact this
/-- the law's own lists, seen -/
theorem Rr.lv {w : World} {B g cap : Nat} {Vs : List Value} {um : Value} {M : List (List Nat)} (h : Rr w B (.slice (some ⟨g, 0, none⟩) (M.length + 1) cap) (M.length + 1) (Vs ++ [um]) M) (hl : Vs.length = M.length) (hb : M.length ≤ 8796093022208) (hc : M.length + 1 ≤ cap) : Lv w (.slice (some ⟨g, 0, none⟩) M.length cap) M := by
  refine ⟨_, g, 0, cap, Vs, rfl, hl, fun _ => rfl, fun i u hi => ?_, fun i u s hu hs => ?_, by omega, hb⟩
  · have hlt := (List.getElem?_eq_some_iff.1 hi).1
    have := h.own.cells (g := g) rfl i u (by rw [List.getElem?_append_left hlt]; exact hi)
    rw [add_flat] at this
    rw [Nat.zero_add]
    exact this
  · have hlt := (List.getElem?_eq_some_iff.1 hu).1
    exact (h.ry i u s (by rw [List.getElem?_append_left hlt]; exact hu) hs).vb
theorem Rr.turn {F : Nat → Prop} {w w' : World} {B : Nat} {v : Value} {k : Nat} {Vs : List Value} {M : List (List Nat)} (h : Rr w B v k Vs M) (t : Turn F w w') (hF : ∀ i, F i → w.heap.size ≤ i) : Rr w' B v k Vs M :=
  ⟨own_turn h.own t (fun g hg hf => by have := h.own.lt g hg; have := hF g hf; omega), fun i u s hu hs => (h.ry i u s hu hs).same (fun q _ hq => t.block q hq (fun z => by have := hF q z; omega))⟩
theorem Rr.below {w w' : World} {B : Nat} {v : Value} {k : Nat} {Vs : List Value} {M : List (List Nat)} (h : Rr w B v k Vs M) (b : Below w.heap.size w w') : Rr w' B v k Vs M := h.turn (Turn.of_below (F := fun _ => False) b) (fun _ q => q.elim)
theorem sBm : sB [109, 97, 114, 107] = ⟨#[109, 97, 114, 107]⟩ := by kernel_rfl
theorem Lv.bl {w0 w : World} {v : Value} {L : List (List Nat)} (h : Lv w0 v L) (k : Below w0.heap.size w0 w) : Lv w v L := h.keep k
set_option maxRecDepth 100000 in
set_option maxHeartbeats 3200000 in
theorem packsL_any (w : World) (v : Value) (t : Int) (L : List (List Nat)) (h : Lv w v L) (hnv : v = .slice none 0 0 ∨ ∃ a n c, v = .slice (some a) n c) (hL : L.length ≤ 1048576) :
    Calls Try.prog 4 #[v, .int .i64 t] w fun e w' => e = .returned (.bool true) ∧ Below w.heap.size w w' := by
  have KN := num_any
  obtain ⟨a, b, off, c, Us, rfl, q1, q2, q3, q4, q5, q6⟩ := h
  obtain ⟨n, en⟩ : ∃ n, n = L.length := ⟨_, rfl⟩
  have HN : Hid (n = L.length ∧ Us.length = n) := ⟨en, by omega⟩
  have HQ : Hid ((∀ (i : Nat) (u : Value), Us[i]? = some u → w.cell? ⟨b, off + i, none⟩ = some u) ∧ (∀ (i : Nat) (u : Value) (s : List Nat), Us[i]? = some u → L[i]? = some s → Vb w u s) ∧ (0 < n → a = some ⟨b, off, none⟩)) := ⟨q3, q4, by rw [en]; exact q2⟩
  have HNL : Hid (a = none → n = 0 ∧ c = 0) := fun e => by
    rcases hnv with q | ⟨a', n', c', q⟩
    · injection q with _ q1 q2
      exact ⟨by omega, q2⟩
    · injection q with q
      rw [e] at q
      cases q
  have HONE : Hid (∀ u ∈ Us, u.oneCell' = true) := fun u hu => by
    obtain ⟨i, hi, rfl⟩ := List.getElem_of_mem hu
    obtain ⟨a', b', o', c', e, _⟩ := q4 i _ _ (List.getElem?_eq_getElem hi) (List.getElem?_eq_getElem (by omega))
    rw [e]
    rfl
  rw [← en] at hL q5 ⊢
  clear q1 q2 q3 q4 q6 hnv en
  go_enter Try.func4, Try.ntmps4
  go_wp2_with fail
  go_loopg [5, 6] 200 (fun g v i wr => ∃ (k : Nat), k ≤ 200 ∧ g = 200 - k ∧ i = .int .i64 k ∧ Al w wr v k Us)
  case atStart => exact ⟨0, by omega, rfl, rfl, ⟨by simpa [rep] using (show w.ownsRow w.heap.size 23 1 (.slice none 0 0) 0 [] from ⟨rfl, Or.inl ⟨rfl, rfl⟩⟩), Below.refl _ _⟩⟩
  case round =>
    obtain ⟨k, hk, rfl, rfl, hA⟩ := hrel
    obtain ⟨av, cv, ev⟩ := own_slice hA.own
    subst ev
    obtain ⟨m, em⟩ : ∃ m, m = k * Us.length := ⟨_, rfl⟩
    have hm : m ≤ 209715200 := by
      rw [em, HN.out.2]
      calc k * n ≤ 200 * n := Nat.mul_le_mul_right n hk
        _ ≤ 209715200 := by omega
    rw [← em] at hA ⊢
    have HA : Hid (Al w wr (.slice av m cv) k Us ∧ m = k * Us.length) := ⟨hA, em⟩
    have sz := hA.below.size
    clear hA em
    by_cases hgo : k < 1 ∨ ((k : Int) < t ∧ k < 200)
    · have hown : wr.ownsRow w.heap.size 23 1 (.slice av m cv) m (rep Us k) := by rw [HA.out.2]; have := HA.out.1.own; rwa [HA.out.2] at this
      have HC : Hid (∀ p, a = some p → ∀ (j : Nat) (u : Value), Us[j]? = some u → wr.cell? (p.add j) = some u) := fun p hp j u hu => by
        have hj := (List.getElem?_eq_some_iff.1 hu).1
        have := HQ.out.2.2 (by have := HN.out; omega)
        rw [hp] at this
        have e := Option.some.inj this
        subst e
        have c0 := HQ.out.1 j u hu
        rw [Go.WideShapes.add_plain]
        exact (HA.out.1.below.cell (World.block_lt_of_cell? _ _ c0)).trans c0
      have HO : Hid (wr.ownsRow w.heap.size 23 1 (.slice av m cv) m (rep Us k)) := hown
      clear hown
      by_cases h1 : k < 1
      · have i1 : (k : Int) < 1 := by omega
        have hk2 : k < 200 := by omega
        clear hgo
        go_wp2_with (refine wpList_append_lists (by rfl) (.tmp 26) (.tmp 27) (by rfl) w.heap.size _ m (rep Us k) (by rfl) HO.out a n c Us (by rfl) HN.out.2 HNL.out HC.out HONE.out (by omega) sz ?_)
        intro v9 w9 own9 gr9
        have HA9 : Hid (Al w w9 v9 (k + 1) Us) := ⟨by rw [rep, Nat.succ_mul, ← HA.out.2, HN.out.2]; exact own9, HA.out.1.below.trans (grown_below gr9 HO.out (Nat.le_refl _) sz)⟩
        clear own9 gr9
        go_wp2_with fail
        go_roundg (200 - (k + 1))
        case measure => omega
        case rel => exact ⟨k + 1, by omega, rfl, by go_num, HA9.out⟩
      · have i1 : ¬ (k : Int) < 1 := by omega
        have i2 : (k : Int) < t := by omega
        have i3 : (k : Int) < 200 := by omega
        have hk2 : k < 200 := by omega
        clear hgo
        go_wp2_with (refine wpList_append_lists (by rfl) (.tmp 26) (.tmp 27) (by rfl) w.heap.size _ m (rep Us k) (by rfl) HO.out a n c Us (by rfl) HN.out.2 HNL.out HC.out HONE.out (by omega) sz ?_)
        intro v9 w9 own9 gr9
        have HA9 : Hid (Al w w9 v9 (k + 1) Us) := ⟨by rw [rep, Nat.succ_mul, ← HA.out.2, HN.out.2]; exact own9, HA.out.1.below.trans (grown_below gr9 HO.out (Nat.le_refl _) sz)⟩
        clear own9 gr9
        go_wp2_with fail
        go_roundg (200 - (k + 1))
        case measure => omega
        case rel => exact ⟨k + 1, by omega, rfl, by go_num, HA9.out⟩
    · have i1 : ¬ (k : Int) < 1 := by omega
      have HMl : Hid ((rep L k).length = m ∧ 0 < k) := ⟨by rw [rep_len, HA.out.2, HN.out.2, HN.out.1], by omega⟩
      have hLv : Lv wr (.slice av m cv) (rep L k) := HA.out.1.lv (by have := HN.out; omega) HQ.out.2.1 (by rw [HMl.out.1]; omega)
      have HLV : Hid (Lv wr (.slice av m cv) (rep L k) ∧ Below w.heap.size w wr) := ⟨hLv, HA.out.1.below⟩
      obtain ⟨M, eM⟩ : ∃ M, M = rep L k := ⟨_, rfl⟩
      rw [← eM] at HMl HLV
      have KR := roomy_any wr _ M HLV.out.1 (by rw [HMl.out.1]; omega)
      unfold RaPost at KR
      rw [HMl.out.1] at KR
      have hm0 : M.length = m := HMl.out.1
      have HM : Hid (M.length = m) := hm0
      clear eM hLv hm0
      by_cases h2 : (k : Int) < t
      · have i2 : (k : Int) < t := h2
        have i3 : ¬ (k : Int) < 200 := by omega
        clear hgo
        go_wp2_with fail
        refine KR.mono ?_
        rintro e w2 ⟨g, cap, Vs, um, rfl, hcap, hVs, hR2, ⟨am, cm, rfl⟩, hum, b2⟩
        have hcap0 : m + 1 ≤ cap := hcap
        have HR2 : Hid (Rr w2 wr.heap.size (.slice (some ⟨g, 0, none⟩) (m + 1) cap) (m + 1) (Vs ++ [.slice am 4 cm]) M ∧ Vb w2 (.slice am 4 cm) [109, 97, 114, 107] ∧ Below wr.heap.size wr w2 ∧ Vs.length = m) := ⟨hR2, hum, b2, hVs⟩
        have hL2 : Lv w2 (.slice (some ⟨g, 0, none⟩) m cap) M := by
          have := Rr.lv (M := M) (w := w2) (B := wr.heap.size) (g := g) (cap := cap) (Vs := Vs) (um := .slice am 4 cm) (by rw [HM.out]; exact hR2) (by rw [HM.out]; exact hVs) (by rw [HM.out]; omega) (by rw [HM.out]; exact hcap)
          rwa [HM.out] at this
        have K3 := packs_any w2 _ M hL2
        unfold PkPost at K3
        clear hR2 hum b2 hL2 KR hVs
        go_wp2_with fail
        refine K3.mono ?_
        rintro e w3 ⟨u3, rfl, s3, b3⟩
        obtain ⟨a3, c3, e3⟩ := own_slice s3.own
        subst e3
        have K4 := rpack_any w3 _ M (HLV.out.1.keep (ch HR2.out.2.2.1 b3))
        unfold PkPost at K4
        have HS3 : Hid (Str w3 (fun i => w2.heap.size ≤ i) (.slice a3 (pf M).length c3) (pf M) ∧ Below w2.heap.size w2 w3) := ⟨s3, b3⟩
        have hpl : (pf M).length ≤ 131072 := by
          rcases pf_cases M with ⟨_, _, p2, p3⟩ | ⟨_, p1⟩
          · rw [p3]; exact p2
          · rw [p1]; simp
        obtain ⟨F, eF⟩ : ∃ F, F = (pf M).length := ⟨_, rfl⟩
        have HF : Hid (F = (pf M).length) := eF
        obtain ⟨E, eE⟩ : ∃ E, E = pfE M := ⟨_, rfl⟩
        rw [← eE] at K4 ⊢
        rw [← eF] at hpl HS3 ⊢
        clear s3 b3 K3 eF eE
        go_wp2_with fail
        refine K4.mono ?_
        rintro e w4 ⟨u4, rfl, s4, b4⟩
        obtain ⟨a4, c4, e4⟩ := own_slice s4.own
        subst e4
        have HB4 : Hid (Below w3.heap.size w3 w4 ∧ Below w2.heap.size w2 w4 ∧ Below wr.heap.size wr w4) := ⟨b4, ch HS3.out.2 b4, ch HR2.out.2.2.1 (ch HS3.out.2 b4)⟩
        have cA : (convert 23 9 (.slice a3 F c3)).run Try.prog w4 = .ok (.string (sB (pf M))) w4 := (conv_vb (s := pf M) (HS3.out.1.vb (by have := HF.out; omega))).2 w4 b4
        have cB := conv_st s4
        have cC := (conv_vb HR2.out.2.1).2 w4 HB4.out.2.1
        rw [sBm] at cC
        have i8 : ¬ (131072 : Int) < (F : Int) := by omega
        have sl := sliceL_upto (some ⟨g, 0, none⟩) m cap (m + 1) hcap0 w4
        rw [show ((m + 1 : Nat) : Int) = (m : Int) + 1 by omega] at sl
        have d4 : w4.cell? ⟨g, m, none⟩ = some (.slice am 4 cm) := by
          have := (HR2.out.1.below HB4.out.2.1).own.cells (g := g) rfl m (.slice am 4 cm) (by rw [List.getElem?_append_right (by have := HR2.out.2.2.2; omega)]; simp [HR2.out.2.2.2])
          rwa [add_flat] at this
        rw [← HF.out] at cB ⊢
        have HX5 : Hid (Str w4 (fun i => w2.heap.size ≤ i) (.slice a3 F c3) (pf M)) := HS3.out.1.turn (Turn.of_below (F := fun _ => False) b4) (fun _ _ _ q => q)
        generalize sB (pf M) = S at cA cB
        clear s4 b4 K4
        obtain ⟨w5, ew5⟩ : ∃ w5, w5 = w4.alloc (.cells #[.slice a3 F c3] 23) := ⟨_, rfl⟩
        have b5 : Below w4.heap.size w4 w5 := by rw [ew5]; exact below_alloc _ _
        have o5 := World.ownsRow_lit (base := w4.heap.size) (e := 23) (size := 1) w4 #[.slice a3 F c3] 1 (Nat.le_refl _) (by decide) rfl
        rw [← ew5] at o5
        have KA := apart_any4 w5 w4.heap.size (some ⟨w4.heap.size, 0, none⟩) 1 [.slice a3 F c3] (fun _ => pf M) o5 (fun r u hu => by
            have hr := (List.getElem?_eq_some_iff.1 hu).1
            have e0 : r = 0 := by simp at hr; omega
            subst e0
            have := Option.some.inj hu
            subst this
            exact (HX5.out.turn (Turn.of_below (F := fun _ => False) b5) (fun _ _ _ q => q)).mono (fun _ _ => trivial)) (List.pairwise_singleton _ _) (fun r hr => by have := HF.out; omega) (by simp)
        have HW5 : Hid (w5 = w4.alloc (.cells #[.slice a3 F c3] 23) ∧ Below w4.heap.size w4 w5) := ⟨ew5, b5⟩
        have HBK : Hid (∀ i, Blk [.slice a3 F c3] i → w2.heap.size ≤ i) := fun i ⟨u, hu, hi⟩ => by
          have := List.mem_singleton.1 hu
          subst this
          exact HX5.out.foot i hi
        clear b5 o5 ew5
        go_wp2_with (first
          | (go_at_call 7; refine (KN _ _).mono ?_; rintro e w' ⟨rfl, hw'⟩; subst w')
          | (rw [← HW5.out.1])
          | (go_at_call 13; refine KA.mono ?_; rintro e w6 ⟨rfl, t6⟩; have t26 : Turn (Blk [.slice a3 F c3]) w2 w6 := (Turn.of_below (ch HB4.out.2.1 HW5.out.2)).trans t6 (fun i z => Or.inl z); have HR6 : Hid (Rr w6 wr.heap.size (.slice (some ⟨g, 0, none⟩) (m + 1) cap) (m + 1) (Vs ++ [.slice am 4 cm]) M ∧ Below wr.heap.size wr w6 ∧ Lv w6 (.slice av m cv) M) := (by
              have s2 := HR2.out.2.2.1.size
              have bb : Below wr.heap.size wr w6 := HR2.out.2.2.1.trans (t26.below (fun i z => by have := HBK.out i z; omega) s2)
              exact ⟨HR2.out.1.turn t26 (fun i z => HBK.out i z), bb, HLV.out.1.keep bb⟩); clear t6 t26 KA))
        have HIN : Hid (∀ i, i < m → ∃ b0 o0, av = some ⟨b0, o0, none⟩ ∧ ∃ xa xn xc ya yn yc, w6.cell? ⟨g, i, none⟩ = some (.slice xa xn xc) ∧ w6.cell? ⟨b0, o0 + i, none⟩ = some (.slice ya yn yc) ∧ ∀ q, Calls Try.prog 14 #[.slice xa xn xc, .slice ya yn yc] (w6.drewN q) fun e w' => e = .returned (.bool true) ∧ ∃ q', w' = (w6.drewN q).drewN q') := fun i hi => by
          obtain ⟨b0, o0, e0, ya, yn, yc, s, cy, hs, _, vy⟩ := HR6.out.2.2.nth hi
          have hV := List.getElem?_eq_getElem (l := Vs) (i := i) (by have := HR2.out.2.2.2; omega)
          have hV2 : (Vs ++ [Value.slice am 4 cm])[i]? = some (Vs[i]'(by have := HR2.out.2.2.2; omega)) := by rw [List.getElem?_append_left (by have := HR2.out.2.2.2; omega)]; exact hV
          have ry := HR6.out.1.ry i _ s hV2 hs
          have cx := HR6.out.1.own.cells (g := g) rfl i _ hV2
          rw [add_flat] at cx
          obtain ⟨g', cap', ee, rest⟩ := ry
          refine ⟨b0, o0, e0, _, _, _, ya, yn, yc, cx.trans (congrArg some ee), cy, fun q => ?_⟩
          have ry' : Ry (fun q => wr.heap.size ≤ q) w6 (.slice (some ⟨g', 0, none⟩) s.length cap') s := ⟨g', cap', rfl, rest⟩
          exact aswas3_q (vy.keep (below_drewN (Below.refl _ _) q)) (ry'.below (below_drewN (Below.refl _ _) q))
        have HB6 : Hid (Below w.heap.size w w6) := ch HLV.out.2 HR6.out.2.1
        clear cA cB cC d4 sl i8
        go_loopg [76] m (fun g' i w7 => ∃ (j q : Nat), j ≤ m ∧ g' = m - j ∧ i = .int .i64 j ∧ w7 = w6.drewN q)
        case atStart => exact ⟨0, 0, Nat.zero_le _, rfl, rfl, rfl⟩
        case round =>
          obtain ⟨j, q, hj, rfl, rfl, ewr⟩ := hrel
          by_cases hjm : j < m
          · have i5 : (j : Int) < (m : Int) := by omega
            have i6 : (j : Int) < (cap : Int) := by omega
            obtain ⟨b0, o0, rfl, xa, xn, xc, ya, yn, yc, c1, c2, KW⟩ := HIN.out j hjm
            have d1 : wr.cell? ⟨g, j, none⟩ = some (.slice xa xn xc) := by rw [ewr]; simpa using c1
            have d2 : wr.cell? ⟨b0, o0 + j, none⟩ = some (.slice ya yn yc) := by rw [ewr]; simpa using c2
            have HK : Hid (∀ q', Calls Try.prog 14 #[.slice xa xn xc, .slice ya yn yc] (wr.drewN q') fun e w' => e = .returned (.bool true) ∧ ∃ q'', w' = (wr.drewN q').drewN q'') := fun q' => by
              have := KW (q + q')
              rw [ewr]
              simpa using this
            have HW : Hid (wr = w6.drewN q) := ewr
            clear KW c1 c2 ewr
            go_wp2_with fail
            go_quiet ((go_at_call 14; exact Calls.quiet_of (HK.out _)))
            go_wp2_with fail
            go_roundg (m - (j + 1))
            case measure => omega
            case rel => exact ⟨j + 1, q + nq, by omega, rfl, by go_num, by rw [HW.out]; simp⟩
          · have i5 : ¬ (j : Int) < (m : Int) := by omega
            have KK := known_any
            have HB7 : Hid (Below w.heap.size w wr) := by rw [ewr]; exact below_drewN HB6.out q
            clear ewr
            go_wp2_with (first
              | (go_at_call 10; refine (KK _).mono ?_; rintro e w8 ⟨rfl, b8⟩; have B8 : Hid (Below w.heap.size w w8) := ch HB7.out b8; clear b8))
            go_ret
            exact ⟨rfl, B8.out⟩
      · have i2 : ¬ (k : Int) < t := h2
        clear hgo
        go_wp2_with fail
        refine KR.mono ?_
        rintro e w2 ⟨g, cap, Vs, um, rfl, hcap, hVs, hR2, ⟨am, cm, rfl⟩, hum, b2⟩
        have hcap0 : m + 1 ≤ cap := hcap
        have HR2 : Hid (Rr w2 wr.heap.size (.slice (some ⟨g, 0, none⟩) (m + 1) cap) (m + 1) (Vs ++ [.slice am 4 cm]) M ∧ Vb w2 (.slice am 4 cm) [109, 97, 114, 107] ∧ Below wr.heap.size wr w2 ∧ Vs.length = m) := ⟨hR2, hum, b2, hVs⟩
        have hL2 : Lv w2 (.slice (some ⟨g, 0, none⟩) m cap) M := by
          have := Rr.lv (M := M) (w := w2) (B := wr.heap.size) (g := g) (cap := cap) (Vs := Vs) (um := .slice am 4 cm) (by rw [HM.out]; exact hR2) (by rw [HM.out]; exact hVs) (by rw [HM.out]; omega) (by rw [HM.out]; exact hcap)
          rwa [HM.out] at this
        have K3 := packs_any w2 _ M hL2
        unfold PkPost at K3
        clear hR2 hum b2 hL2 KR hVs
        go_wp2_with fail
        refine K3.mono ?_
        rintro e w3 ⟨u3, rfl, s3, b3⟩
        obtain ⟨a3, c3, e3⟩ := own_slice s3.own
        subst e3
        have K4 := rpack_any w3 _ M (HLV.out.1.keep (ch HR2.out.2.2.1 b3))
        unfold PkPost at K4
        have HS3 : Hid (Str w3 (fun i => w2.heap.size ≤ i) (.slice a3 (pf M).length c3) (pf M) ∧ Below w2.heap.size w2 w3) := ⟨s3, b3⟩
        have hpl : (pf M).length ≤ 131072 := by
          rcases pf_cases M with ⟨_, _, p2, p3⟩ | ⟨_, p1⟩
          · rw [p3]; exact p2
          · rw [p1]; simp
        obtain ⟨F, eF⟩ : ∃ F, F = (pf M).length := ⟨_, rfl⟩
        have HF : Hid (F = (pf M).length) := eF
        obtain ⟨E, eE⟩ : ∃ E, E = pfE M := ⟨_, rfl⟩
        rw [← eE] at K4 ⊢
        rw [← eF] at hpl HS3 ⊢
        clear s3 b3 K3 eF eE
        go_wp2_with fail
        refine K4.mono ?_
        rintro e w4 ⟨u4, rfl, s4, b4⟩
        obtain ⟨a4, c4, e4⟩ := own_slice s4.own
        subst e4
        have HB4 : Hid (Below w3.heap.size w3 w4 ∧ Below w2.heap.size w2 w4 ∧ Below wr.heap.size wr w4) := ⟨b4, ch HS3.out.2 b4, ch HR2.out.2.2.1 (ch HS3.out.2 b4)⟩
        have cA : (convert 23 9 (.slice a3 F c3)).run Try.prog w4 = .ok (.string (sB (pf M))) w4 := (conv_vb (s := pf M) (HS3.out.1.vb (by have := HF.out; omega))).2 w4 b4
        have cB := conv_st s4
        have cC := (conv_vb HR2.out.2.1).2 w4 HB4.out.2.1
        rw [sBm] at cC
        have i8 : ¬ (131072 : Int) < (F : Int) := by omega
        have sl := sliceL_upto (some ⟨g, 0, none⟩) m cap (m + 1) hcap0 w4
        rw [show ((m + 1 : Nat) : Int) = (m : Int) + 1 by omega] at sl
        have d4 : w4.cell? ⟨g, m, none⟩ = some (.slice am 4 cm) := by
          have := (HR2.out.1.below HB4.out.2.1).own.cells (g := g) rfl m (.slice am 4 cm) (by rw [List.getElem?_append_right (by have := HR2.out.2.2.2; omega)]; simp [HR2.out.2.2.2])
          rwa [add_flat] at this
        rw [← HF.out] at cB ⊢
        have HX5 : Hid (Str w4 (fun i => w2.heap.size ≤ i) (.slice a3 F c3) (pf M)) := HS3.out.1.turn (Turn.of_below (F := fun _ => False) b4) (fun _ _ _ q => q)
        generalize sB (pf M) = S at cA cB
        clear s4 b4 K4
        obtain ⟨w5, ew5⟩ : ∃ w5, w5 = w4.alloc (.cells #[.slice a3 F c3] 23) := ⟨_, rfl⟩
        have b5 : Below w4.heap.size w4 w5 := by rw [ew5]; exact below_alloc _ _
        have o5 := World.ownsRow_lit (base := w4.heap.size) (e := 23) (size := 1) w4 #[.slice a3 F c3] 1 (Nat.le_refl _) (by decide) rfl
        rw [← ew5] at o5
        have KA := apart_any4 w5 w4.heap.size (some ⟨w4.heap.size, 0, none⟩) 1 [.slice a3 F c3] (fun _ => pf M) o5 (fun r u hu => by
            have hr := (List.getElem?_eq_some_iff.1 hu).1
            have e0 : r = 0 := by simp at hr; omega
            subst e0
            have := Option.some.inj hu
            subst this
            exact (HX5.out.turn (Turn.of_below (F := fun _ => False) b5) (fun _ _ _ q => q)).mono (fun _ _ => trivial)) (List.pairwise_singleton _ _) (fun r hr => by have := HF.out; omega) (by simp)
        have HW5 : Hid (w5 = w4.alloc (.cells #[.slice a3 F c3] 23) ∧ Below w4.heap.size w4 w5) := ⟨ew5, b5⟩
        have HBK : Hid (∀ i, Blk [.slice a3 F c3] i → w2.heap.size ≤ i) := fun i ⟨u, hu, hi⟩ => by
          have := List.mem_singleton.1 hu
          subst this
          exact HX5.out.foot i hi
        clear b5 o5 ew5
        go_wp2_with (first
          | (go_at_call 7; refine (KN _ _).mono ?_; rintro e w' ⟨rfl, hw'⟩; subst w')
          | (rw [← HW5.out.1])
          | (go_at_call 13; refine KA.mono ?_; rintro e w6 ⟨rfl, t6⟩; have t26 : Turn (Blk [.slice a3 F c3]) w2 w6 := (Turn.of_below (ch HB4.out.2.1 HW5.out.2)).trans t6 (fun i z => Or.inl z); have HR6 : Hid (Rr w6 wr.heap.size (.slice (some ⟨g, 0, none⟩) (m + 1) cap) (m + 1) (Vs ++ [.slice am 4 cm]) M ∧ Below wr.heap.size wr w6 ∧ Lv w6 (.slice av m cv) M) := (by
              have s2 := HR2.out.2.2.1.size
              have bb : Below wr.heap.size wr w6 := HR2.out.2.2.1.trans (t26.below (fun i z => by have := HBK.out i z; omega) s2)
              exact ⟨HR2.out.1.turn t26 (fun i z => HBK.out i z), bb, HLV.out.1.keep bb⟩); clear t6 t26 KA))
        have HIN : Hid (∀ i, i < m → ∃ b0 o0, av = some ⟨b0, o0, none⟩ ∧ ∃ xa xn xc ya yn yc, w6.cell? ⟨g, i, none⟩ = some (.slice xa xn xc) ∧ w6.cell? ⟨b0, o0 + i, none⟩ = some (.slice ya yn yc) ∧ ∀ q, Calls Try.prog 14 #[.slice xa xn xc, .slice ya yn yc] (w6.drewN q) fun e w' => e = .returned (.bool true) ∧ ∃ q', w' = (w6.drewN q).drewN q') := fun i hi => by
          obtain ⟨b0, o0, e0, ya, yn, yc, s, cy, hs, _, vy⟩ := HR6.out.2.2.nth hi
          have hV := List.getElem?_eq_getElem (l := Vs) (i := i) (by have := HR2.out.2.2.2; omega)
          have hV2 : (Vs ++ [Value.slice am 4 cm])[i]? = some (Vs[i]'(by have := HR2.out.2.2.2; omega)) := by rw [List.getElem?_append_left (by have := HR2.out.2.2.2; omega)]; exact hV
          have ry := HR6.out.1.ry i _ s hV2 hs
          have cx := HR6.out.1.own.cells (g := g) rfl i _ hV2
          rw [add_flat] at cx
          obtain ⟨g', cap', ee, rest⟩ := ry
          refine ⟨b0, o0, e0, _, _, _, ya, yn, yc, cx.trans (congrArg some ee), cy, fun q => ?_⟩
          have ry' : Ry (fun q => wr.heap.size ≤ q) w6 (.slice (some ⟨g', 0, none⟩) s.length cap') s := ⟨g', cap', rfl, rest⟩
          exact aswas3_q (vy.keep (below_drewN (Below.refl _ _) q)) (ry'.below (below_drewN (Below.refl _ _) q))
        have HB6 : Hid (Below w.heap.size w w6) := ch HLV.out.2 HR6.out.2.1
        clear cA cB cC d4 sl i8
        go_loopg [76] m (fun g' i w7 => ∃ (j q : Nat), j ≤ m ∧ g' = m - j ∧ i = .int .i64 j ∧ w7 = w6.drewN q)
        case atStart => exact ⟨0, 0, Nat.zero_le _, rfl, rfl, rfl⟩
        case round =>
          obtain ⟨j, q, hj, rfl, rfl, ewr⟩ := hrel
          by_cases hjm : j < m
          · have i5 : (j : Int) < (m : Int) := by omega
            have i6 : (j : Int) < (cap : Int) := by omega
            obtain ⟨b0, o0, rfl, xa, xn, xc, ya, yn, yc, c1, c2, KW⟩ := HIN.out j hjm
            have d1 : wr.cell? ⟨g, j, none⟩ = some (.slice xa xn xc) := by rw [ewr]; simpa using c1
            have d2 : wr.cell? ⟨b0, o0 + j, none⟩ = some (.slice ya yn yc) := by rw [ewr]; simpa using c2
            have HK : Hid (∀ q', Calls Try.prog 14 #[.slice xa xn xc, .slice ya yn yc] (wr.drewN q') fun e w' => e = .returned (.bool true) ∧ ∃ q'', w' = (wr.drewN q').drewN q'') := fun q' => by
              have := KW (q + q')
              rw [ewr]
              simpa using this
            have HW : Hid (wr = w6.drewN q) := ewr
            clear KW c1 c2 ewr
            go_wp2_with fail
            go_quiet ((go_at_call 14; exact Calls.quiet_of (HK.out _)))
            go_wp2_with fail
            go_roundg (m - (j + 1))
            case measure => omega
            case rel => exact ⟨j + 1, q + nq, by omega, rfl, by go_num, by rw [HW.out]; simp⟩
          · have i5 : ¬ (j : Int) < (m : Int) := by omega
            have KK := known_any
            have HB7 : Hid (Below w.heap.size w wr) := by rw [ewr]; exact below_drewN HB6.out q
            clear ewr
            go_wp2_with (first
              | (go_at_call 10; refine (KK _).mono ?_; rintro e w8 ⟨rfl, b8⟩; have B8 : Hid (Below w.heap.size w w8) := ch HB7.out b8; clear b8))
            go_ret
            exact ⟨rfl, B8.out⟩
end Go.Proofs.Ytledfigfokoiiaa
