import Derived.Test.YtledfigfokoiiaaLvq
import Derived.Test.YtledfigfokoiiaaRlq
/-
  Pack.
-/
namespace Go.Proofs.Ytledfigfokoiiaa
open Go.RowKit
set_option maxRecDepth 100000 in
theorem stand_any (w : World) (a : Option Addr) (n c : Nat) (hn : n ≤ 140737488351232) : Calls Try.prog 19 #[.slice a n c] w fun e w' => e = .returned (.bool (decide (0 < n) && decide (n ≤ 1024))) ∧ w' = w := by
  by_cases h0 : 0 < n
  · have i0 : (0 : Int) < (n : Int) := by omega
    by_cases h1 : n ≤ 1024
    · have i1 : (n : Int) ≤ 1024 := by omega
      rw [decide_eq_true h0, decide_eq_true h1]
      go_enter Try.func19, Try.ntmps19
      go_wp2_with fail
      go_ret
      exact ⟨rfl, rfl⟩
    · have i1 : ¬ (n : Int) ≤ 1024 := by omega
      rw [decide_eq_true h0, decide_eq_false h1]
      go_enter Try.func19, Try.ntmps19
      go_wp2_with fail
      go_ret
      exact ⟨rfl, rfl⟩
  · have e : n = 0 := by omega
    subst e
    go_enter Try.func19, Try.ntmps19
    go_wp2_with fail
    go_ret
    exact ⟨rfl, rfl⟩
/-- items made of lists that were handed in -/
def yo (Us : List Value) : List (Bool × Value × Value) := Us.map (fun u => (false, u, .slice none 0 0))
structure Pl (w wr : World) (v : Value) (Us : List Value) : Prop where
  own : wr.ownsRow (w.heap.size + 1) 46 3 v Us.length (fl (yo Us))
  box : Bx wr w.heap.size 46 (.bool true) (.slice none 0 0) v
  below : Below w.heap.size w wr
theorem Pl.next {w wr w9 : World} {v v' u : Value} {Us : List Value} {o : Obj} (h : Pl w wr v Us) (own9 : w9.ownsRow (w.heap.size + 1) 46 3 v' (Us.length + 1) (fl (yo Us) ++ [.bool false, u, .slice none 0 0])) (gr : (wr.alloc o).grownBy w9 v.ownBlock) :
    Pl w (w9.setCell ⟨w.heap.size, 2, none⟩ v') v' (Us ++ [u]) := by
  have hl := h.box.lt
  have b9 : Bx w9 w.heap.size 46 (.bool true) (.slice none 0 0) v := by
    refine h.box.keep ?_
    rw [gr.block _ (by simp; omega) (fun e => by have := (h.own.lt _ e.symm).1; omega)]
    exact heap_alloc_old _ _ hl
  refine ⟨?_, b9.set2, ?_⟩
  · have e : fl (yo (Us ++ [u])) = fl (yo Us) ++ [.bool false, u, .slice none 0 0] := by
      unfold yo
      rw [List.map_append, fl_app]
      rfl
    rw [e, List.length_append]
    exact own_same own9 (fun g hg => Below.heap_setCell _ _ _ _ (fun e => by have := (own9.lt g hg).1; simp at e; omega))
  · have t : Turn (fun i => v.ownBlock = some i) (wr.alloc o) w9 := Turn.of_grown gr (fun k e => e)
    have k1 : Below w.heap.size (wr.alloc o) w9 := t.below (fun i hi => by have := (h.own.lt i hi).1; omega) (by simp; omega)
    exact ((h.below.alloc h.below.size _).trans k1).setCell (Nat.le_refl _) _
theorem yo_at {Us : List Value} {i : Nat} {u : Value} (h : Us[i]? = some u) : (yo Us)[i]? = some (false, u, .slice none 0 0) := by
  unfold yo
  rw [List.getElem?_map, h]
  rfl
theorem Pl.lies {w wr : World} {v : Value} {Us : List Value} {L : List (List Nat)} (h : Pl w wr v Us) (hl : Us.length = L.length) (hn : L.length ≤ 131072) (hv : ∀ (i : Nat) (u : Value) (s : List Nat), Us[i]? = some u → L[i]? = some s → Vb wr u s) : Lies Vb wr (lit L) (.slice none 0 0) v := by
  have nilb : Vb wr (.slice none 0 0) [] := ⟨none, 0, 0, 0, rfl, ⟨fun h => by simp at h, fun i hi => by simp at hi, fun i hi => by simp at hi, by simp⟩, Nat.le_refl _, fun _ => rfl, by simp⟩
  obtain ⟨a, c, rfl⟩ := own_slice h.own
  have e : Us.length = (its L).length := by rw [its_len]; exact hl
  rw [e]
  have row := h.own
  by_cases h0 : L.length = 0
  · refine Its.shut (blk := 0) (off := 0) ⟨fun h => by rw [its_len] at h; omega, by rw [its_len]; omega, fun i x hx => ?_⟩ nilb
    have := (List.getElem?_eq_some_iff.1 hx).1
    rw [its_len] at this
    omega
  · obtain ⟨g, rfl⟩ : ∃ g, a = some ⟨g, 0, none⟩ := by
      rcases row.2 with ⟨_, q⟩ | ⟨g, cap, cur, e, _⟩
      · omega
      · injection e with e
        exact ⟨g, e⟩
    refine Its.shut (blk := g) (off := 0) ⟨fun _ => rfl, by rw [its_len]; omega, fun i x hx => ?_⟩ nilb
    obtain ⟨s, hs, rfl⟩ := its_at hx
    have hi := (List.getElem?_eq_some_iff.1 hs).1
    have hu := List.getElem?_eq_getElem (l := Us) (i := i) (by omega)
    have hb := hv i _ s hu hs
    obtain ⟨k1, k2, k3⟩ := fl_at (yo_at hu)
    have c1' := row.cells (g := g) rfl _ _ k1
    have c2' := row.cells (g := g) rfl _ _ k2
    have c3' := row.cells (g := g) rfl _ _ k3
    rw [add_flat] at c1' c2' c3'
    obtain ⟨a1, b1, o1, q1, ee, rr⟩ := hb
    have hb' : Vb wr (.slice a1 s.length q1) s := ⟨a1, b1, o1, q1, rfl, rr⟩
    refine ⟨a1, s.length, q1, none, 0, 0, ?_, ?_, ?_, ?_⟩
    · rw [Nat.zero_add, c1']; rfl
    · rw [Nat.zero_add, c2']; exact congrArg some ee
    · rw [Nat.zero_add, c3']
    · exact Its.shut (xs := []) (a := none) (blk := 0) (off := 0) (c := 0) ⟨fun h => by simp at h, by simp, fun i x hx => by simp at hx⟩ hb'
/-- WHAT Pack HANDS OUT -/
def PkPost (L : List (List Nat)) (w : World) (e : Ending) (w' : World) : Prop := ∃ u, e = .returned (.tuple #[u, .int .i64 (pfE L)]) ∧ Str w' (fun i => w.heap.size ≤ i) u (pf L) ∧ Below w.heap.size w w'
set_option maxRecDepth 100000 in
set_option maxHeartbeats 3200000 in
theorem pack_any (w : World) (v : Value) (L : List (List Nat)) (h : Lv w v L) : Calls Try.prog 17 #[v] w (PkPost L w) := by
  have HLV : Hid (Lv w v L) := h
  obtain ⟨a, b, off, c, Us, rfl, q1, q2, q3, q4, q5, q6⟩ := h
  have HQ : Hid ((0 < L.length → a = some ⟨b, off, none⟩) ∧ Us.length = L.length ∧ (∀ (i : Nat) (u : Value), Us[i]? = some u → w.cell? ⟨b, off + i, none⟩ = some u) ∧ (∀ (i : Nat) (u : Value) (s : List Nat), Us[i]? = some u → L[i]? = some s → Vb w u s)) := ⟨q2, q1, q3, q4⟩
  obtain ⟨n, en⟩ : ∃ n, n = L.length := ⟨_, rfl⟩
  have HN : Hid (n = L.length) := en
  rw [← en] at q5 q6 ⊢
  obtain ⟨W, eW⟩ : ∃ W, W = w.alloc (.cells #[.bool true, .slice none 0 0, .slice none 0 0] 46) := ⟨_, rfl⟩
  have HP0 : Hid (Pl w (w.alloc (.cells #[.bool true, .slice none 0 0, .slice none 0 0] 46)) (.slice none 0 0) []) := ⟨⟨rfl, Or.inl ⟨rfl, rfl⟩⟩, heap_alloc_new _ _, below_alloc _ _⟩
  obtain ⟨i25, hi0, hz0, hz1, hz2⟩ := info_parts infoIt
  have HI : Hid (Try.prog.info? 46 = some i25 ∧ i25.zero = some (.agg #[.bool false, .slice none 0 0, .slice none 0 0]) ∧ i25.size = 3 ∧ i25.bytes = 56) := ⟨hi0, hz0, hz1, hz2⟩
  clear q1 q2 q3 q4 en hi0 hz0 hz1 hz2 eW W
  go_enter Try.func17, Try.ntmps17
  go_wp2_with fail
  go_loopg [5, 13] n (fun g r i wr => ∃ (k : Nat) (v : Value), k ≤ n ∧ g = n - k ∧ i = .int .i64 k ∧ r = .int .i64 (131072 - (tot (L.take k) : Nat)) ∧ tot (L.take k) ≤ 131072 ∧ k ≤ tot (L.take k) ∧ (∀ (j : Nat) (s : List Nat), j < k → L[j]? = some s → ok1 s = true) ∧ Pl w wr v (Us.take k))
  case atStart => exact ⟨0, .slice none 0 0, Nat.zero_le _, rfl, rfl, by simp [tot], by simp [tot], by simp [tot], fun j s hj => by omega, by simpa using HP0.out⟩
  case round =>
    clear HP0
    obtain ⟨k, v, hk, rfl, rfl, rfl, ht, hkt, hok, hP⟩ := hrel
    have HOK : Hid (∀ (j : Nat) (s : List Nat), j < k → L[j]? = some s → ok1 s = true) := hok
    have HP : Hid (Pl w wr v (Us.take k)) := hP
    have hul : (Us.take k).length = k := by rw [List.length_take]; have := HQ.out.2.1; have := HN.out; omega
    obtain ⟨av, cv, ev⟩ := own_slice hP.own
    rw [hul] at ev
    subst ev
    obtain ⟨x0, x1, x2, xf⟩ := hP.box.cells
    have f2 := xf 2
    clear hok hP xf
    by_cases hkn : k < n
    · have i1 : (k : Int) < (n : Int) := by omega
      obtain rfl := HQ.out.1 (by have := HN.out; omega)
      have hu := List.getElem?_eq_getElem (l := Us) (i := k) (by have := HQ.out.2.1; have := HN.out; omega)
      have hs := List.getElem?_eq_getElem (l := L) (i := k) (by have := HN.out; omega)
      obtain ⟨s, es⟩ : ∃ s, s = L[k]'(by have := HN.out; omega) := ⟨_, rfl⟩
      obtain ⟨u, eu⟩ : ∃ u, u = Us[k]'(by have := HQ.out.2.1; have := HN.out; omega) := ⟨_, rfl⟩
      rw [← es] at hs
      rw [← eu] at hu
      have c0 := HQ.out.2.2.1 k u hu
      have vb0 := HQ.out.2.2.2 k u s hu hs
      have d0 : wr.cell? ⟨b, off + k, none⟩ = some u := (HP.out.below.cell (World.block_lt_of_cell? _ _ c0)).trans c0
      obtain ⟨au, bu, ou, cu, rfl, hvu, _, _, hlu⟩ := vb0
      have et := tot_take hs
      obtain ⟨m, em⟩ : ∃ m, m = s.length := ⟨_, rfl⟩
      obtain ⟨T, eT⟩ : ∃ T, T = tot (L.take k) := ⟨_, rfl⟩
      rw [← em, ← eT] at et
      rw [← eT] at ht hkt ⊢
      rw [← em] at d0 hlu
      have HS : Hid (L[k]? = some s ∧ Us[k]? = some (.slice au m cu) ∧ m = s.length ∧ tot (L.take (k + 1)) = T + m ∧ T = tot (L.take k)) := ⟨hs, by rw [em]; exact hu, em, et, eT⟩
      have KS := fun w => stand_any w au m cu (by omega)
      clear c0 hvu es eu hs hu et em eT
      by_cases h1 : 0 < m ∧ m ≤ 1024
      · rw [decide_eq_true h1.1, decide_eq_true h1.2] at KS
        by_cases h2 : T + m ≤ 131072
        · have i2 : ¬ (131072 : Int) - (T : Int) - (m : Int) < 0 := by omega
          have HNX : Hid (wr.heap.size + 0 = wr.heap.size) := rfl
          have own4 : (wr.alloc (.cells #[.bool false, .slice au m cu, .slice none 0 0] 46)).ownsRow (w.heap.size + 1) 46 3 (.slice av k cv) k (fl (yo (Us.take k))) := by
            have := HP.out.own.alloc (.cells #[.bool false, .slice au m cu, .slice none 0 0] 46)
            rwa [hul] at this
          have nw := World.news_of_block (w := wr.alloc (.cells #[.bool false, .slice au m cu, .slice none 0 0] 46)) (B := wr.heap.size) (cs := #[.bool false, .slice au m cu, .slice none 0 0]) (t := 46) (fr := (0, 0)) (heap_alloc_new _ _)
          have HO4 : Hid ((wr.alloc (.cells #[.bool false, .slice au m cu, .slice none 0 0] 46)).ownsRow (w.heap.size + 1) 46 3 (.slice av k cv) k (fl (yo (Us.take k)))) := own4
          have HNW : Hid (∀ (j : Nat) (u : Value), #[Value.bool false, .slice au m cu, .slice none 0 0].toList[j]? = some u → (wr.alloc (.cells #[.bool false, .slice au m cu, .slice none 0 0] 46)).cell? ((⟨wr.heap.size, 0, none⟩ : Addr).add j) = some u) := nw
          have HNXT : Hid (∀ w9 g9 cap9, w9.ownsRow (w.heap.size + 1) 46 3 (.slice (some ⟨g9, 0, none⟩) (k + 1) cap9) (k + 1) (fl (yo (Us.take k)) ++ [.bool false, .slice au m cu, .slice none 0 0]) → (wr.alloc (.cells #[.bool false, .slice au m cu, .slice none 0 0] 46)).grownBy w9 (Value.slice av k cv).ownBlock →
              Pl w (w9.setCell ⟨w.heap.size, 2, none⟩ (.slice (some ⟨g9, 0, none⟩) (k + 1) cap9)) (.slice (some ⟨g9, 0, none⟩) (k + 1) cap9) (Us.take (k + 1)) ∧ Bx w9 w.heap.size 46 (.bool true) (.slice none 0 0) (.slice av k cv)) := fun w9 g9 cap9 o9 gr => by
            refine ⟨?_, HP.out.box.keep ?_⟩
            · rw [List.take_add_one, HS.out.2.1]
              exact HP.out.next (by rw [hul]; exact o9) gr
            · rw [gr.block _ (by have := HP.out.box.lt; simp; omega) (fun e => by have := (HP.out.own.lt _ e.symm).1; omega)]
              exact heap_alloc_old _ _ HP.out.box.lt
          have hsz : w.heap.size + 1 ≤ wr.heap.size := by have := HP.out.box.lt; omega
          have hk1 : k + 1 ≤ 131073 := by omega
          clear own4 nw
          go_wp2_with (first
            | (go_at_call 19; refine (KS _).mono ?_; rintro e w' ⟨rfl, hw'⟩; subst w')
            | (refine wpList_append_lies _ (by rfl) (.tmp 29) (.tmp 32) 44 (by rfl) (w.heap.size + 1) 46 i25 _ 3 56 Try.underlying44 HI.out.1 HI.out.2.1 HI.out.2.2.1 HI.out.2.2.2 (by rfl) (by decide) (.slice av k cv) k (fl (yo (Us.take k))) (by rfl) HO4.out ⟨wr.heap.size, 0, none⟩ 1 1 [.bool false, .slice au m cu, .slice none 0 0] (by rfl) (by rfl) HNW.out (by simp [Value.oneCell']) (by decide) (by unfold maxLen; omega) (by omega) (by simp; omega) _ (by rfl) ?_; intro g9 cap9 w9 own9 gr9 at9 lt9; have HN9 := HNXT.out w9 g9 cap9 own9 gr9; obtain ⟨c90, c91, c92, c9f⟩ := HN9.2.cells; have f92 := c9f 2; have HL9 : Hid (Pl w (w9.setCell ⟨w.heap.size, 2, none⟩ (.slice (some ⟨g9, 0, none⟩) (k + 1) cap9)) (.slice (some ⟨g9, 0, none⟩) (k + 1) cap9) (Us.take (k + 1))) := HN9.1; clear own9 gr9 at9 lt9 c9f HN9))
          go_roundg (n - (k + 1))
          case measure => omega
          case rel =>
            refine ⟨k + 1, _, by omega, rfl, by go_num, ?_, ?_, ?_, fun j s' hj hs' => ?_, HL9.out⟩
            · rw [HS.out.2.2.2.1]
              congr 1
              omega
            · rw [HS.out.2.2.2.1]; omega
            · rw [HS.out.2.2.2.1]; omega
            · by_cases e : j = k
              · subst e
                have : s' = s := by have := HS.out.1; rw [hs'] at this; exact Option.some.inj this
                subst this
                exact ok1_iff.2 (by rw [← HS.out.2.2.1]; exact h1)
              · exact HOK.out j s' (by omega) hs'
        · have i2 : (131072 : Int) - (T : Int) - (m : Int) < 0 := by omega
          obtain ⟨e1, e2⟩ := pf_no2 (L := L) (k := k + 1) (by rw [HS.out.2.2.2.1]; omega)
          unfold PkPost
          rw [e1, e2]
          have HB : Hid (Below w.heap.size w wr) := HP.out.below
          clear e1 e2
          go_wp2_with (first
            | (go_at_call 19; refine (KS _).mono ?_; rintro e w' ⟨rfl, hw'⟩; subst w'))
          go_ret2
          exact ⟨_, rfl, str_nil _ _, HB.out⟩
      · have e0 : (decide (0 < m) && decide (m ≤ 1024)) = false := by
          by_cases h3 : 0 < m
          · rw [decide_eq_false (show ¬ m ≤ 1024 by omega)]; simp
          · rw [decide_eq_false h3]; rfl
        rw [e0] at KS
        obtain ⟨e1, e2⟩ := pf_no1 (L := L) (k := k) (s := s) HS.out.1 (by unfold ok1; rw [← HS.out.2.2.1]; exact e0)
        unfold PkPost
        rw [e1, e2]
        have HB : Hid (Below w.heap.size w wr) := HP.out.below
        clear e1 e2 e0
        go_wp2_with (first
            | (go_at_call 19; refine (KS _).mono ?_; rintro e w' ⟨rfl, hw'⟩; subst w'))
        go_ret2
        exact ⟨_, rfl, str_nil _ _, HB.out⟩
    · have i1 : ¬ (k : Int) < (n : Int) := by omega
      have ek : k = n := by omega
      subst ek
      have eL : L.take k = L := List.take_of_length_le (by have := HN.out; omega)
      have eU : Us.take k = Us := List.take_of_length_le (by have := HN.out; have := HQ.out.2.1; omega)
      rw [eL] at ht hkt
      have HP' : Pl w wr (.slice av k cv) Us := by have := HP.out; rwa [eU] at this
      have hokL : okL L = true := okL_of (fun i s hi => HOK.out i s (by have := (List.getElem?_eq_some_iff.1 hi).1; have := HN.out; omega) hi)
      have hL := HP'.lies (L := L) HQ.out.2.1 (by have := HN.out; omega) (fun i u s hu hs => (HQ.out.2.2.2 i u s hu hs).keep HP'.below)
      have KE := encode_any (lit L) wr _ _ hL
      have HB : Hid (Below w.heap.size w wr) := HP'.below
      clear HP hL eL eU HP'
      have HEL := enc_lit L
      rcases HEL with ⟨e1, e2, e3⟩ | ⟨e1, e2, e3⟩
      · rw [e1, e2] at KE
        obtain ⟨F, eF⟩ : ∃ F, F = (form (lit L)).length := ⟨_, rfl⟩
        by_cases h4 : F ≤ 131072
        · have i4 : ¬ (131072 : Int) < (F : Int) := by omega
          obtain ⟨p1, p2⟩ := pf_ok hokL (by omega)
          have HF : Hid (F = (form (lit L)).length ∧ pfE L = 0 ∧ pf L = form (lit L)) := ⟨eF, p1, p2⟩
          clear e1 e2 e3 p1 p2 eF
          go_wp2_with fail
          refine KE.mono ?_
          rintro e w3 ⟨v3, rfl, s3, b3⟩
          obtain ⟨a3, c3, e3⟩ := own_slice s3.own
          subst e3
          have HZ : Hid (Str w3 (fun i => wr.heap.size ≤ i) (.slice a3 (form (lit L)).length c3) (form (lit L)) ∧ Below wr.heap.size wr w3) := ⟨s3, b3⟩
          rw [← HF.out.1]
          clear s3 b3 KE
          go_wp2_with fail
          go_ret2
          refine ⟨_, by rw [HF.out.2.1]; rfl, ?_, ch HB.out HZ.out.2⟩
          rw [HF.out.2.2]
          have := HZ.out.1.mono (G := fun i => w.heap.size ≤ i) (fun i hi => by have := HB.out.size; omega)
          rw [← HF.out.1] at this
          exact this
        · have i4 : (131072 : Int) < (F : Int) := by omega
          obtain ⟨p1, p2⟩ := pf_bad (L := L) (fun q => by omega)
          have HF : Hid (F = (form (lit L)).length ∧ pfE L = 2 ∧ pf L = []) := ⟨eF, p1, p2⟩
          clear e1 e2 e3 p1 p2 eF
          go_wp2_with fail
          refine KE.mono ?_
          rintro e w3 ⟨v3, rfl, s3, b3⟩
          obtain ⟨a3, c3, e3⟩ := own_slice s3.own
          subst e3
          have HZ : Hid (Below wr.heap.size wr w3) := b3
          rw [← HF.out.1]
          clear s3 b3 KE
          go_wp2_with fail
          go_ret2
          exact ⟨_, by rw [HF.out.2.1]; rfl, by rw [HF.out.2.2]; exact str_nil _ _, ch HB.out HZ.out⟩
      · rw [e1, e2] at KE
        obtain ⟨p1, p2⟩ := pf_bad (L := L) (fun q => by omega)
        have HF : Hid (pfE L = 2 ∧ pf L = []) := ⟨p1, p2⟩
        clear e1 e2 e3 p1 p2
        go_wp2_with fail
        refine KE.mono ?_
        rintro e w3 ⟨v3, rfl, s3, b3⟩
        obtain ⟨a3, c3, e3⟩ := own_slice s3.own
        subst e3
        have HZ : Hid (Below wr.heap.size wr w3) := b3
        clear s3 b3 KE
        go_wp2_with fail
        go_ret2
        exact ⟨_, by rw [HF.out.1]; rfl, by rw [HF.out.2]; exact str_nil _ _, ch HB.out HZ.out⟩
set_option maxRecDepth 100000 in
theorem packs_any (w : World) (v : Value) (L : List (List Nat)) (h : Lv w v L) : Calls Try.prog 6 #[v] w (PkPost L w) := by
  have K := pack_any w v L h
  obtain ⟨a, c, rfl⟩ := h.form
  obtain ⟨n, en⟩ : ∃ n, n = L.length := ⟨_, rfl⟩
  rw [← en] at K ⊢
  clear h en
  go_enter Try.func6, Try.ntmps6
  go_wp2_with fail
  refine K.mono ?_
  rintro e w1 ⟨u, rfl, s1, b1⟩
  obtain ⟨a1, c1, e1⟩ := own_slice s1.own
  subst e1
  have HZ : Hid (Str w1 (fun i => w.heap.size ≤ i) (.slice a1 (pf L).length c1) (pf L) ∧ Below w.heap.size w w1) := ⟨s1, b1⟩
  clear s1 b1 K
  generalize (pf L).length = m at HZ ⊢
  go_wp2_with fail
  go_ret2
  exact ⟨_, rfl, HZ.out.1, HZ.out.2⟩
end Go.Proofs.Ytledfigfokoiiaa
