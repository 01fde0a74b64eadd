import Derived.Test.YtledfigfokoiiaaSuq
/-
  cairnref15: Unpack.
-/
namespace Go.Proofs.Ytledfigfokoiiaa
open Go.RowKit
theorem sB_inj {s t : List Nat} (hs : ∀ x ∈ s, x < 256) (ht : ∀ x ∈ t, x < 256) (h : sB s = sB t) : s = t := by
  have h1 : (sB s).data.toList = (sB t).data.toList := by rw [h]
  unfold sB str at h1
  rw [strOfNums_data, strOfNums_data] at h1
  have hl : s.length = t.length := by
    have := congrArg List.length h1
    simpa using this
  refine ext_gd hl (fun i hi => ?_)
  have h2 : (((List.range s.length).map (fun i => ((gd s i : Nat) : Int))).map fun n => UInt8.ofNat n.toNat)[i]? = (((List.range t.length).map (fun i => ((gd t i : Nat) : Int))).map fun n => UInt8.ofNat n.toNat)[i]? := by rw [h1]
  rw [List.getElem?_map, List.getElem?_map, List.getElem?_map, List.getElem?_map, List.getElem?_range hi, List.getElem?_range (by omega)] at h2
  have h3 : UInt8.ofNat (gd s i) = UInt8.ofNat (gd t i) := by simpa using h2
  have h4 := congrArg UInt8.toNat h3
  have a1 := gd_lt hs i
  have a2 := gd_lt ht i
  rw [UInt8.toNat_ofNat', UInt8.toNat_ofNat', Nat.mod_eq_of_lt (by omega), Nat.mod_eq_of_lt (by omega)] at h4
  exact h4
theorem vb_byt {w : World} {v : Value} {s : List Nat} (h : Vb w v s) : ∀ x ∈ s, x < 256 := by
  obtain ⟨a, b, off, c, rfl, hv, -⟩ := h
  exact (vw_ok hv).2
theorem sB_list (s : List Nat) : (sB s).toList = (sB s).data.toList := ByteArray.toList_eq _
theorem sB_ne {s t : List Nat} (hs : ∀ x ∈ s, x < 256) (ht : ∀ x ∈ t, x < 256) (h : s ≠ t) : sB s ≠ sB t ∧ ((sB s).toList == (sB t).toList) = false ∧ (sB s == sB t) = false := by
  have h1 : sB s ≠ sB t := fun e => h (sB_inj hs ht e)
  have h2 : ((sB s).toList == (sB t).toList) = false := by
    apply beq_eq_false_iff_ne.2
    intro e
    rw [sB_list, sB_list] at e
    exact h1 (ByteArray.ext (by rw [← Array.toList_inj]; exact e))
  exact ⟨h1, h2, by rw [beq_toListBytes]; exact h2⟩
/-- a piece of bytes -/
theorem vb_cut {w : World} {a : Option Addr} {b off c l z : Nat} {s : List Nat} (hv : Vw w a b off s) (hc : s.length ≤ c) (hn : a = none → c = 0) (hl : s.length ≤ 140737488351232) (h1 : l ≤ z) (h2 : z ≤ s.length) : Vw w (behind a c l) b (off + l) (cut s l z) ∧ (behind a c l = none → c - l = 0) := by
  have e : (cut s l z).length = z - l := cut_len h2
  refine ⟨⟨fun q => ?_, fun i hi => ?_, fun i hi => ?_, by rw [e]; omega⟩, fun q => ?_⟩
  · rw [e] at q
    have := hv.at_ (by omega)
    subst this
    unfold behind
    rw [if_neg (by omega)]
    simp [Go.WideShapes.add_plain]
  · rw [e] at hi
    have := hv.cell (l + i) (by omega)
    rw [cut_gd (by omega), Nat.add_assoc]
    exact this
  · rw [e] at hi
    have := hv.bd (l + i) (by omega)
    rw [cut_gd (by omega)]
    exact this
  · cases a with
    | none => have := hn rfl; omega
    | some p =>
      unfold behind at q
      split at q <;> cases q
theorem conv_vw {w w' : World} {a : Option Addr} {b off n : Nat} {s : List Nat} (h : Vw w a b off s) (e : n = s.length) (c : Nat) (k : Below w.heap.size w w') : (convert 23 9 (.slice a n c)).run Try.prog w' = .ok (.string (sB s)) w' := by
  subst e
  exact convert_view (h.below k) c
theorem conv_st {w : World} {F : Nat → Prop} {a : Option Addr} {c : Nat} {s : List Nat} (h : Str w F (.slice a s.length c) s) : (convert 23 9 (.slice a s.length c)).run Try.prog w = .ok (.string (sB s)) w := by
  obtain ⟨a', g, c', e, -, hv, -⟩ := h.view
  injection e with e1 _ e3
  subst e1
  subst e3
  exact convert_view hv c
/-- A ROW OF LISTS THAT GROWS, each in a block of its own, all at B or behind it. -/
structure Gr (w : World) (B : Nat) (v : Value) (Us : List Value) (L : List (List Nat)) : Prop where
  own : w.ownsRow B 23 1 v L.length Us
  str : ∀ (i : Nat) (u : Value) (s : List Nat), Us[i]? = some u → L[i]? = some s → Str w (fun q => B ≤ q) u s ∧ s.length ≤ 140737488351232
theorem Gr.len {w : World} {B : Nat} {v : Value} {Us : List Value} {L : List (List Nat)} (h : Gr w B v Us L) : Us.length = L.length := by
  have := h.own.1
  omega
theorem Gr.nil (w : World) (B : Nat) : Gr w B (.slice none 0 0) [] [] := ⟨⟨rfl, Or.inl ⟨rfl, rfl⟩⟩, (fun i u s hu => by cases hu)⟩
theorem Gr.lv {w : World} {B : Nat} {v : Value} {Us : List Value} {L : List (List Nat)} (h : Gr w B v Us L) (hl : L.length ≤ 8796093022208) : Lv w v L := by
  have hu : ∀ (i : Nat) (u : Value) (s : List Nat), Us[i]? = some u → L[i]? = some s → Vb w u s := fun i u s hu hs => (h.str i u s hu hs).1.vb (h.str i u s hu hs).2
  rcases h.own.2 with ⟨rfl, h0⟩ | ⟨g, cap, cur, rfl, hB, hg, h1, h2, h3, h4⟩
  · exact ⟨none, 0, 0, 0, Us, by rw [h0], h.len, fun k => by omega, fun i u hi => by have := h.len; have := (List.getElem?_eq_some_iff.1 hi).1; omega, hu, by omega, hl⟩
  · refine ⟨_, g, 0, cap, Us, rfl, h.len, fun _ => rfl, fun i u hi => ?_, hu, h1, hl⟩
    have := h.own.cells (g := g) rfl i u hi
    rw [add_flat] at this
    rw [Nat.zero_add]
    exact this
theorem Gr.turn {F : Nat → Prop} {w w' : World} {B : Nat} {v : Value} {Us : List Value} {L : List (List Nat)} (h : Gr w B v Us L) (t : Turn F w w') (hF : ∀ i, F i → i < B ∨ w.heap.size ≤ i) : Gr w' B v Us L :=
  ⟨own_turn h.own t (fun g hg hf => by have := h.own.lt g hg; have := hF g hf; omega), fun i u s hu hs => ⟨(h.str i u s hu hs).1.turn t (fun i hi hl hf => by have := hF i hf; omega), (h.str i u s hu hs).2⟩⟩
theorem Gr.below {w w' : World} {B : Nat} {v : Value} {Us : List Value} {L : List (List Nat)} (h : Gr w B v Us L) (k : Below w.heap.size w w') : Gr w' B v Us L := h.turn (Turn.of_below (F := fun _ => False) k) (fun _ q => q.elim)
/-- one more -/
theorem Gr.push {w w1 w' : World} {B : Nat} {v v' u : Value} {Us : List Value} {L : List (List Nat)} {s : List Nat} (h : Gr w B v Us L) (k1 : Below w.heap.size w w1) (hu : Str w1 (fun q => B ≤ q) u s) (hl : s.length ≤ 140737488351232)
    (own' : w'.ownsRow B 23 1 v' (L.length + 1) (Us ++ [u])) (gr : w1.grownBy w' v.ownBlock) : Gr w' B v' (Us ++ [u]) (L ++ [s]) := by
  have t1 : Turn (fun _ => False) w w1 := Turn.of_below k1
  have h1 : w1.ownsRow B 23 1 v L.length Us := own_turn h.own t1 (fun _ _ q => q)
  have t : Turn (fun i => v.ownBlock = some i) w1 w' := Turn.of_grown gr (fun k e => e)
  have nv : ∀ (y : Value) (r : List Nat), Str w1 (fun q => B ≤ q) y r → Str w' (fun q => B ≤ q) y r := fun y r hy => by
    refine ⟨own_turn hy.own t (fun g hg z => ?_), hy.foot, hy.ok⟩
    obtain ⟨cur, hc⟩ := own_block h1 z
    exact hy.ne hc (by decide) hg
  refine ⟨by rw [List.length_append]; exact own', fun i y r hy hr => ?_⟩
  have ls := h.len
  rcases Nat.lt_or_ge i Us.length with q | q
  · rw [List.getElem?_append_left q] at hy
    rw [List.getElem?_append_left (by omega)] at hr
    obtain ⟨a1, a2⟩ := h.str i y r hy hr
    exact ⟨nv y r (a1.turn t1 (fun _ _ _ z => z)), a2⟩
  · have e : i = Us.length := by
      have := (List.getElem?_eq_some_iff.1 hy).1
      simp at this
      omega
    subst e
    rw [List.getElem?_append_right (Nat.le_refl _)] at hy
    rw [ls, List.getElem?_append_right (Nat.le_refl _)] at hr
    simp at hy hr
    subst hy
    subst hr
    exact ⟨nv u s hu, hl⟩
/-- WHAT THE REFERENCE'S Unpack HANDS OUT -/
def RuPost (s : List Nat) (w : World) (e : Ending) (w' : World) : Prop := ∃ u Us, e = .returned (.tuple #[u, .int .i64 (ufE s)]) ∧ Gr w' w.heap.size u Us (uf s) ∧ Below w.heap.size w w'
theorem lv_nil (w : World) : Lv w (.slice none 0 0) [] := ⟨none, 0, 0, 0, [], rfl, rfl, (fun k => by simp at k), (fun i u hi => by cases hi), (fun i u s hi => by cases hi), Nat.le_refl _, by simp⟩
theorem RuPost.no {s : List Nat} {w w' : World} (h : ufE s = 160 ∧ uf s = []) (b : Below w.heap.size w w') : RuPost s w (.returned (.tuple #[.slice none 0 0, .int .i64 160])) w' :=
  ⟨_, [], by rw [h.1]; rfl, by rw [h.2]; exact Gr.nil _ _, b⟩
set_option maxRecDepth 100000 in
set_option maxHeartbeats 6400000 in
theorem runpack_any (w : World) (v : Value) (s : List Nat) (h : Vb w v s) : Calls Try.prog 16 #[v] w (RuPost s w) := by
  have KS := span_any w v s true h
  obtain ⟨a, b, off, c, rfl, hv, hc, hnil, hl⟩ := h
  have hsb := (vw_ok hv).2
  obtain ⟨n, en⟩ : ∃ n, n = s.length := ⟨_, rfl⟩
  have HRU : Hid (ruP s = if (spn s true).2.2 = true ∧ s.length ≤ 131072 then rdS s (spn s true).2.1 ((spn s true).2.1 - (spn s true).1) (spn s true).1 [] else none) := rfl
  have HSO : Hid (∀ lo hi, spn s true = (lo, hi, true) → lo ≤ hi ∧ 0 < hi ∧ hi ≤ n) := fun lo hi q => by rw [en]; exact spn_ok q
  rw [← en] at KS hc hl ⊢
  obtain ⟨⟨lo, hi, ok⟩, eS⟩ : ∃ t, t = spn s true := ⟨_, rfl⟩
  rw [← eS] at KS HRU HSO
  dsimp only at KS HRU
  have HV : Hid (Vw w a b off s ∧ (a = none → c = 0) ∧ n = s.length ∧ ∀ x ∈ s, x < 256) := ⟨hv, hnil, en, hsb⟩
  clear hv hnil hsb en eS
  cases ok with
  | false =>
    have HU : Hid (ufE s = 160 ∧ uf s = []) := ru_none HV.out.2.2.2 (by rw [HRU.out, if_neg (fun q => by cases q.1)])
    go_enter Try.func16, Try.ntmps16
    go_wp2_with fail
    refine KS.mono ?_
    rintro e w' ⟨rfl, hw'⟩
    subst w'
    go_wp2_with fail
    go_ret2
    exact RuPost.no HU.out (Below.refl _ _)
  | true =>
    obtain ⟨hlh, hh0, hhn⟩ := HSO.out lo hi rfl
    by_cases hbig : n ≤ 131072
    · have i0 : ¬ (131072 : Int) < (n : Int) := by omega
      have HR : Hid (ruP s = rdS s hi (hi - lo) lo []) := by show _ = _; rw [HRU.out, if_pos ⟨rfl, by have := HV.out.2.2.1; omega⟩]
      obtain ⟨i25, hi0, hz0, hz1, hz2⟩ := info_parts info23
      have HI : Hid (Try.prog.info? 23 = some i25 ∧ i25.zero = some (.slice none 0 0) ∧ i25.size = 1 ∧ i25.bytes = 24) := ⟨hi0, hz0, hz1, hz2⟩
      clear HRU HSO hi0 hz0 hz1 hz2
      go_enter Try.func16, Try.ntmps16
      go_wp2_with fail
      refine KS.mono ?_
      rintro e w' ⟨rfl, hw'⟩
      subst w'
      clear KS
      go_wp2_with fail
      go_loopg [4, 7] (hi - lo) (fun g f v wr => ∃ (p fu : Nat) (acc : List (List Nat)) (Us : List Value) (vv : Value), v = vv ∧ lo + acc.length ≤ p ∧ p ≤ hi ∧ g = hi - p ∧ f = .int .i64 p ∧ rdS s hi (hi - lo) lo [] = rdS s hi fu p acc ∧ hi - p ≤ fu ∧ Gr wr w.heap.size vv Us acc ∧ Below w.heap.size w wr)
      case atStart => exact ⟨lo, hi - lo, [], [], _, rfl, by simp, hlh, rfl, rfl, rfl, Nat.le_refl _, Gr.nil _ _, Below.refl _ _⟩
      case round =>
        obtain ⟨p, fu, acc, Us, v, rfl, hp1, hp2, rfl, rfl, hrd, hfu, hG, hB⟩ := hrel
        have HRD : Hid (rdS s hi (hi - lo) lo [] = rdS s hi fu p acc) := hrd
        have sz := hB.size
        obtain ⟨av, cv, ev⟩ := own_slice hG.own
        subst ev
        have HG : Hid (Gr wr w.heap.size (.slice av acc.length cv) Us acc ∧ Below w.heap.size w wr) := ⟨hG, hB⟩
        have hal : acc.length ≤ 131072 := by omega
        clear hrd hG hB
        by_cases hph : p < hi
        · have i1 : (p : Int) < (hi : Int) := by omega
          obtain ⟨fu, rfl⟩ : ∃ f, fu = f + 1 := ⟨fu - 1, by omega⟩
          have sl := slice_both a n c p hi hp2 (by omega)
          obtain ⟨vcut, ncut⟩ := vb_cut (HV.out.1.below HG.out.2) (by have := HV.out.2.2.1; omega) HV.out.2.1 (by have := HV.out.2.2.1; omega) hp2 (by have := HV.out.2.2.1; omega)
          have lcut : (cut s p hi).length = hi - p := cut_len (by have := HV.out.2.2.1; omega)
          have K2 := span_any wr (.slice (behind a c p) (hi - p) (c - p)) (cut s p hi) false ⟨_, _, _, _, by rw [lcut], vcut, by rw [lcut]; omega, ncut, by rw [lcut]; omega⟩
          have HSO : Hid (∀ l h, spn (cut s p hi) false = (l, h, true) → l ≤ h ∧ 0 < h ∧ h ≤ hi - p) := fun l h q => by
            have := spn_ok q
            rwa [lcut] at this
          have HRS : Hid (rdS s hi (fu + 1) p acc = if (spn (cut s p hi) false).2.2 = true then rdS s hi fu (p + (spn (cut s p hi) false).2.1) (acc ++ [cut s (p + (spn (cut s p hi) false).1) (p + (spn (cut s p hi) false).2.1)]) else none) := by
            show _ = _
            rw [rdS, if_pos hph]
          obtain ⟨⟨l1, h1, ok⟩, eS⟩ : ∃ t, t = spn (cut s p hi) false := ⟨_, rfl⟩
          rw [← eS] at K2 HRS HSO
          dsimp only at K2 HRS
          clear vcut ncut lcut eS
          cases ok with
          | false =>
            have HU : Hid (ufE s = 160 ∧ uf s = []) := ru_none HV.out.2.2.2 (by rw [HR.out, HRD.out, HRS.out, if_neg (fun q => by cases q)])
            go_wp2_with fail
            refine K2.mono ?_
            rintro e w' ⟨rfl, hw'⟩
            subst w'
            go_wp2_with fail
            go_ret2
            exact RuPost.no HU.out HG.out.2
          | true =>
            obtain ⟨q1, q2, q3⟩ := HSO.out l1 h1 rfl
            have HNX : Hid (rdS s hi (hi - lo) lo [] = rdS s hi fu (p + h1) (acc ++ [cut s (p + l1) (p + h1)])) := by show _ = _; rw [HRD.out, HRS.out, if_pos rfl]
            have sl2 := slice_both a n c (p + l1) (p + h1) (by omega) (by omega)
            rw [show ((p + l1 : Nat) : Int) = (p : Int) + (l1 : Int) by omega, show ((p + h1 : Nat) : Int) = (p : Int) + (h1 : Int) by omega] at sl2
            obtain ⟨y, ey⟩ : ∃ y, y = cut s (p + l1) (p + h1) := ⟨_, rfl⟩
            obtain ⟨vcut, ncut⟩ := vb_cut (l := p + l1) (z := p + h1) (HV.out.1.below (ch HG.out.2 (below_alloc wr (.cells #[] 5)))) (by have := HV.out.2.2.1; omega) HV.out.2.1 (by have := HV.out.2.2.1; omega) (by omega) (by have := HV.out.2.2.1; omega)
            have lcut : (cut s (p + l1) (p + h1)).length = p + h1 - (p + l1) := cut_len (by have := HV.out.2.2.1; omega)
            have byt : ∀ x ∈ cut s (p + l1) (p + h1), x < 256 := fun x hx => HV.out.2.2.2 x (cut_mem hx)
            rw [← ey] at vcut lcut byt HNX
            obtain ⟨m, em⟩ : ∃ m, m = p + h1 - (p + l1) := ⟨_, rfl⟩
            rw [← em] at sl2 lcut
            have HY : Hid (y.length = m ∧ ∀ x ∈ y, x < 256) := ⟨lcut, byt⟩
            have own0 := World.ownsRow_lit (base := wr.heap.size) (e := 5) (size := 1) wr #[] 0 (Nat.le_refl _) (by decide) rfl
            have HV0 : Hid (View (wr.alloc (.cells #[] 5)) (behind a c (p + l1)) b (off + (p + l1)) m (fun i => ((gd y i : Nat) : Int)) ∧ (behind a c (p + l1) = none → c - (p + l1) = 0)) := ⟨by rw [← lcut]; exact vcut, ncut⟩
            have hm : m ≤ 131072 := by omega
            clear vcut ncut lcut byt em ey HSO HRS
            generalize behind a c (p + l1) = aa at sl2 HV0
            generalize c - (p + l1) = cc at sl2 HV0
            go_wp2_with fail
            refine K2.mono ?_
            rintro e w' ⟨rfl, hw'⟩
            subst w'
            clear K2 sl
            go_wp2_with (refine wpList_append_bytes (by rfl) (.tmp 41) (.tmp 49) (by rfl) wr.heap.size _ 0 [] (by rfl) own0 aa b (off + (p + l1)) m cc _ (by rfl) HV0.out.1 HV0.out.2 (by omega) (by simp) ?_)
            intro v2 w2 own2 gr2 nn2
            have b2 : Below wr.heap.size wr w2 := (below_alloc _ _).trans (grown_below gr2 own0 (Nat.le_refl _) (by simp))
            replace own2 : w2.ownsRow wr.heap.size 5 1 v2 y.length (bv y) := by
              rw [HY.out.1]
              have : w2.ownsRow wr.heap.size 5 1 v2 m (vals (fun i => ((gd y i : Nat) : Int)) m) := by simpa using own2
              rw [← HY.out.1, vals_bv] at this
              rw [← HY.out.1]
              exact this
            have st2 : Str w2 (fun q => w.heap.size ≤ q) v2 y := ⟨own_base own2, fun g hg => Nat.le_trans sz (own2.lt g hg).1, ⟨by have := HY.out.1; omega, HY.out.2⟩⟩
            obtain ⟨a2, c2, e2⟩ := own_slice own2
            subst e2
            rw [HY.out.1] at st2 ⊢
            obtain ⟨w3, ew3⟩ : ∃ w3, w3 = w2.alloc (.cells #[.slice a2 m c2] 23) := ⟨_, rfl⟩
            have b3 : Below w2.heap.size w2 w3 := by rw [ew3]; exact below_alloc _ _
            have HW3 : Hid (w3 = w2.alloc (.cells #[.slice a2 m c2] 23)) := ew3
            have B3 : Hid (Below wr.heap.size wr w3) := ch b2 b3
            have ST : Hid (Str w3 (fun q => w.heap.size ≤ q) (.slice a2 m c2) y) := st2.turn (Turn.of_below (F := fun _ => False) b3) (fun _ _ _ q => q)
            have HO4 : Hid (w3.ownsRow w.heap.size 23 1 (.slice av acc.length cv) acc.length Us) := own_turn HG.out.1.own (Turn.of_below (F := fun _ => False) (ch b2 b3)) (fun _ _ q => q)
            have HNW : Hid (∀ (j : Nat) (u : Value), [Value.slice a2 m c2][j]? = some u → w3.cell? ((⟨w2.heap.size, 0, none⟩ : Addr).add j) = some u) := by
              have := World.news_of_block (w := w3) (B := w2.heap.size) (cs := #[.slice a2 m c2]) (t := 23) (fr := (0, 0)) (by rw [ew3]; exact heap_alloc_new _ _)
              exact this
            have sz3 : w.heap.size ≤ w3.heap.size := Nat.le_trans sz (ch b2 b3).size
            clear own2 st2 gr2 nn2 b2 b3 ew3 own0
            go_wp2_with (first
              | (rw [← HW3.out])
              | (refine wpList_append_lies _ (by rfl) (.tmp 40) (.tmp 51) 22 (by rfl) w.heap.size 23 i25 _ 1 24 Try.underlying22 HI.out.1 HI.out.2.1 HI.out.2.2.1 HI.out.2.2.2 (by rfl) (by decide) (.slice av acc.length cv) acc.length Us (by rfl) HO4.out ⟨w2.heap.size, 0, none⟩ 1 1 [.slice a2 m c2] (by rfl) (by rfl) HNW.out (by simp [Value.oneCell']) (by decide) (by unfold maxLen; omega) (by omega) (by omega) _ (by rfl) ?_; intro g9 cap9 w9 own9 gr9 at9 lt9; have HG9 : Hid (Gr w9 w.heap.size (.slice (some ⟨g9, 0, none⟩) (acc.length + 1) cap9) (Us ++ [.slice a2 m c2]) (acc ++ [y]) ∧ Below w.heap.size w w9) := ⟨HG.out.1.push B3.out ST.out (by have := HY.out.1; omega) own9 gr9, (ch HG.out.2 B3.out).trans (grown_below gr9 HO4.out (Nat.le_refl _) sz3)⟩; clear own9 gr9 at9 lt9))
            go_roundg (hi - (p + h1))
            case measure => omega
            case rel => exact ⟨p + h1, fu, acc ++ [y], _, _, rfl, by simp; omega, by omega, rfl, by go_num, HNX.out, by omega, HG9.out.1, HG9.out.2⟩
        · have i1 : ¬ (p : Int) < (hi : Int) := by omega
          have ep : p = hi := by omega
          have HRP : Hid (ruP s = some acc) := by
            show _ = _
            rw [HR.out, HRD.out]
            cases fu with
            | zero => rw [rdS]
            | succ f => rw [rdS, if_neg hph]
          have hLv := HG.out.1.lv (by omega)
          have KP := rpack_any wr _ _ hLv
          have HLV : Hid (Lv wr (.slice av acc.length cv) acc) := hLv
          unfold PkPost at KP
          clear hLv
          have KN : True := trivial
          rcases pf_cases acc with ⟨p0, p1, p2, p3⟩ | ⟨p0, p1⟩
          · rw [p0] at KP
            have lpf : (pf acc).length ≤ 131072 := by rw [p3]; exact p2
            have HPF : Hid (pfE acc = 0 ∧ (pf acc).length ≤ 131072) := ⟨p0, lpf⟩
            obtain ⟨t, et⟩ : ∃ t, t = pf acc := ⟨_, rfl⟩
            have HT : Hid (t = pf acc) := et
            rw [← et] at KP lpf
            clear p0 p1 p2 p3 et
            by_cases hts : t = s
            · have HU : Hid (ufE s = 0 ∧ uf s = acc) := ru_ok HPF.out.1 (by rw [← HT.out]; exact hts)
              subst hts
              go_wp2_with fail
              refine KP.mono ?_
              rintro e w3 ⟨v3, rfl, s3, b3⟩
              obtain ⟨a3, c3, e3⟩ := own_slice s3.own
              subst e3
              have cA := conv_st s3
              have cB := conv_vw HV.out.1 HV.out.2.2.1 c (ch HG.out.2 b3)
              have HB3 : Hid (Below w.heap.size w w3 ∧ Gr w3 w.heap.size (.slice av acc.length cv) Us acc) := ⟨ch HG.out.2 b3, HG.out.1.below b3⟩
              clear s3 b3 KP
              generalize t.length = tl at cA ⊢
              generalize sB t = S at cA cB
              go_wp2_with fail
              go_ret2
              exact ⟨_, Us, by rw [HU.out.1]; rfl, by rw [HU.out.2]; exact HB3.out.2, HB3.out.1⟩
            · have HU : Hid (ufE s = 160 ∧ uf s = []) := ru_bad HV.out.2.2.2 HRP.out (fun q => hts (by rw [HT.out]; exact q.2))
              go_wp2_with fail
              refine KP.mono ?_
              rintro e w3 ⟨v3, rfl, s3, b3⟩
              obtain ⟨a3, c3, e3⟩ := own_slice s3.own
              subst e3
              have cA := conv_st s3
              have cB := conv_vw HV.out.1 HV.out.2.2.1 c (ch HG.out.2 b3)
              obtain ⟨n1, n2, n3⟩ := sB_ne s3.ok.2 HV.out.2.2.2 hts
              have HB3 : Hid (Below w.heap.size w w3) := ch HG.out.2 b3
              clear s3 b3 KP
              generalize t.length = tl at cA ⊢
              generalize sB t = S at cA n1 n2 n3
              generalize sB s = S' at cB n1 n2 n3
              go_wp2_with fail
              go_ret2
              exact RuPost.no HU.out HB3.out
          · rw [p0, p1] at KP
            have HU : Hid (ufE s = 160 ∧ uf s = []) := ru_bad HV.out.2.2.2 HRP.out (fun q => by omega)
            clear p0 p1
            go_wp2_with fail
            refine KP.mono ?_
            rintro e w3 ⟨v3, rfl, s3, b3⟩
            obtain ⟨a3, c3, e3⟩ := own_slice s3.own
            subst e3
            have HB3 : Hid (Below w.heap.size w w3) := ch HG.out.2 b3
            clear s3 b3 KP
            go_wp2_with fail
            go_ret2
            exact RuPost.no HU.out HB3.out
    · have i0 : (131072 : Int) < (n : Int) := by omega
      have HU : Hid (ufE s = 160 ∧ uf s = []) := ru_none HV.out.2.2.2 (by rw [HRU.out, if_neg (fun q => by have := q.2; have := HV.out.2.2.1; omega)])
      clear HSO HRU
      go_enter Try.func16, Try.ntmps16
      go_wp2_with fail
      refine KS.mono ?_
      rintro e w' ⟨rfl, hw'⟩
      subst w'
      go_wp2_with fail
      go_ret2
      exact RuPost.no HU.out (Below.refl _ _)
end Go.Proofs.Ytledfigfokoiiaa
