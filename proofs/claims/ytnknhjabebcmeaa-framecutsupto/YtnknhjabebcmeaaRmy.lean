/-
  cairnlaw01: Roomy, Whole, Turn.
-/
import Derived.Test.YtnknhjabebcmeaaRSm
import Derived.Test.YtnknhjabebcmeaaApt
import Derived.Laws.BitsAllLaws
namespace Go.Proofs.Ytnknhjabebcmeaa
open Go.RowKit

def mks : List Nat := [77, 78, 79]
theorem view_new3 (w : World) : View (w.alloc (.cells #[.int .u8 77, .int .u8 78, .int .u8 79] 5)) (some ⟨w.heap.size, 0, none⟩) w.heap.size 0 3 (fun i => ((gd mks i : Nat) : Int)) := by
  refine ⟨fun _ => rfl, fun i hi => ?_, fun i _ => ?_, by omega⟩
  · rw [cell_of_row _ _ _ _ 5 _ (heap_alloc_new w _)]
    match i, hi with
    | 0, _ => rfl
    | 1, _ => rfl
    | 2, _ => rfl
  · have := gd_lt (s := mks) (by decide) i
    omega

set_option maxRecDepth 100000 in
set_option maxHeartbeats 1600000 in
theorem roomy_any4 (w : World) (a : Option Addr) (b off c : Nat) (t : List Nat) (hv : Vw w a b off t) (hnil : a = none → c = 0) (hn : t.length ≤ 140737488351232) :
    Calls Try.prog 12 #[.slice a t.length c] w fun e w' => ∃ g cap, e = .returned (.slice (some ⟨g, 0, none⟩) t.length cap) ∧
      Str w' (fun i => i = g) (.slice (some ⟨g, 0, none⟩) (t ++ mks).length cap) (t ++ mks) ∧ w.heap.size ≤ g ∧ Below w.heap.size w w' := by
  have own0 := World.ownsRow_lit (base := w.heap.size) (e := 5) (size := 1) w #[] 0 (Nat.le_refl _) (by decide) rfl
  have v0 : Vw (w.alloc (.cells #[] 5)) a b off t := hv.below ((Below.refl _ _).alloc (Nat.le_refl _) _)
  have HV0 : Hid (Vw (w.alloc (.cells #[] 5)) a b off t) := v0
  have HK : Hid (Bs t) := vw_ok hv
  clear hv v0
  go_enter Try.func12, Try.ntmps12
  go_wp2_with (refine wpList_append_bytes (by rfl) (.tmp 3) (.tmp 4) (by rfl) w.heap.size _ 0 [] (by rfl) own0 a b off t.length c _ (by rfl) HV0.out hnil (by omega) (by simp) ?_)
  intro v1 w1 own1 gr1 nn1
  have b1 : Below w.heap.size w w1 := ((Below.refl _ _).alloc (Nat.le_refl _) _).trans (grown_below gr1 own0 (Nat.le_refl _) (by simp))
  replace own1 : w1.ownsRow w.heap.size 5 1 v1 t.length (bv t) := by rw [← vals_bv t]; simpa using own1
  clear own0 gr1 nn1 HV0
  have s1 := b1.size
  go_wp2_with (refine wpList_append_bytes (by rfl) (.tmp 5) (.tmp 6) (by rfl) w.heap.size _ t.length _ (by rfl) (own1.alloc _) (some ⟨w1.heap.size, 0, none⟩) w1.heap.size 0 3 3 _ (by rfl) (view_new3 w1) (fun h => by cases h) (by omega) (by simp; omega) ?_)
  intro v2 w2 own2 gr2 nn2
  have b2 : Below w.heap.size w w2 := (b1.alloc s1 _).trans (grown_below gr2 (own1.alloc _) (Nat.le_refl _) (by simp; omega))
  have em : vals (fun i => ((gd mks i : Nat) : Int)) 3 = bv mks := vals_bv mks
  rw [em, ← bv_app] at own2
  clear own1 gr2 nn2 b1 s1 em
  obtain ⟨g, cap, rfl, hB, hg⟩ := own2.form (by omega)
  have hcap := (own_row own2).2.1
  have j1 := slice_upto (some ⟨g, 0, none⟩) (t.length + 3) cap t.length (by omega)
  have j2 := sliceAt_upto (some ⟨g, 0, none⟩) (t.length + 3) cap t.length (by omega)
  have HO : Hid (w2.ownsRow w.heap.size 5 1 (.slice (some ⟨g, 0, none⟩) (t.length + 3) cap) (t.length + 3) (bv (t ++ mks)) ∧ Below w.heap.size w w2 ∧ w.heap.size ≤ g) := ⟨own2, b2, hB⟩
  clear own2 b2 hB
  go_wp2_with fail
  go_ret
  have el : (t ++ mks).length = t.length + 3 := by simp [mks]
  refine ⟨g, cap, rfl, ⟨by rw [el]; exact own_base HO.out.1, fun g' hg' => (Option.some.inj hg').symm, ⟨by rw [el]; omega, fun x hx => ?_⟩⟩, HO.out.2.2, HO.out.2.1⟩
  rcases List.mem_append.1 hx with hx | hx
  · exact HK.out.2 x hx
  · have : ∀ y ∈ mks, y < 256 := by decide
    exact this x hx

set_option maxRecDepth 100000 in
set_option maxHeartbeats 1600000 in
theorem whole_any4 (w : World) (F : Nat → Prop) (g cap : Nat) (t : List Nat) (hs : Str w F (.slice (some ⟨g, 0, none⟩) (t ++ mks).length cap) (t ++ mks)) (a : Option Addr) (b off c : Nat) (hv : Vw w a b off t) :
    Calls Try.prog 14 #[.slice (some ⟨g, 0, none⟩) t.length cap, .slice a t.length c] w fun e w' => e = .returned (.bool true) ∧ ∃ q, w' = w.drewN q := by
  have el : (t ++ mks).length = t.length + 3 := by simp [mks]
  have hp := str_pre hs
  obtain ⟨a0, g0, c0, e0, _, v0, _⟩ := hp.view
  injection e0 with e1 _ e3
  subst e1
  subst e3
  have K := rsame_any w _ _ _ _ cap _ _ c _ _ v0 hv
  rw [decide_eq_true rfl] at K
  have cc : ∀ j, j < t.length + 3 → w.cell? ⟨g, j, none⟩ = some (.int .u8 ((gd (t ++ mks) j : Nat) : Int)) := fun j hj => by
    have := hs.own.cells (g := g) rfl j _ (bv_at (by omega))
    rw [show (⟨g, 0, none⟩ : Addr).add j = ⟨g, j, none⟩ by unfold Addr.add; split <;> simp_all] at this
    exact this
  have gm : ∀ j, gd (t ++ mks) (t.length + j) = gd mks j := fun j => by unfold gd; rw [List.getD_eq_getElem?_getD, List.getD_eq_getElem?_getD, List.getElem?_append_right (by omega), Nat.add_sub_cancel_left]
  have m0 := cc (t.length + 0) (by omega)
  have m1 := cc (t.length + 1) (by omega)
  have m2 := cc (t.length + 2) (by omega)
  rw [gm, Nat.add_zero, show ((gd mks 0 : Nat) : Int) = 77 from rfl] at m0
  rw [gm, show ((gd mks 1 : Nat) : Int) = 78 from rfl] at m1
  rw [gm, show ((gd mks 2 : Nat) : Int) = 79 from rfl] at m2
  have hr := (own_row hs.own).2.1
  have hn := hp.ok.1
  rw [el] at hr
  have HK : Hid (Calls Try.prog 10 #[.slice (some ⟨g, 0, none⟩) t.length cap, .slice a t.length c] w fun e w' => e = .returned (.bool true) ∧ ∃ q, w' = w.drewN q) := K
  clear K hs hp v0 hv cc gm el
  have j1 := fun u => sliceAt_upto (some ⟨g, 0, none⟩) t.length cap (t.length + 3) hr u
  have j2 := fun u => slice_upto (some ⟨g, 0, none⟩) t.length cap (t.length + 3) hr u
  rw [show ((t.length + 3 : Nat) : Int) = (t.length : Int) + 3 by omega] at j1 j2
  generalize t.length = n at *
  have i1 : (n : Int) < (n : Int) + 3 := by omega
  go_enter Try.func14, Try.ntmps14
  go_wp2_with fail
  refine HK.out.mono ?_
  rintro e w1 ⟨rfl, q, rfl⟩
  go_wp2
  go_ret
  exact ⟨rfl, q, rfl⟩

/-- the lowest bit of each turned -/
def tw (s : List Nat) : List Nat := s.map (fun x => x ^^^ 1)
theorem tw_len (s : List Nat) : (tw s).length = s.length := by simp [tw]

set_option maxRecDepth 100000 in
set_option maxHeartbeats 1600000 in
theorem turn_any4 (w : World) (F : Nat → Prop) (g cap : Nat) (s : List Nat) (hs : Str w F (.slice (some ⟨g, 0, none⟩) s.length cap) s) :
    Calls Try.prog 15 #[.slice (some ⟨g, 0, none⟩) s.length cap] w fun e w' => e = .returned (.tuple #[]) ∧ Str w' F (.slice (some ⟨g, 0, none⟩) s.length cap) (tw s) ∧ Turn (fun i => i = g) w w' := by
  obtain ⟨⟨f, r, hf⟩, h1, h2, h3⟩ := own_row hs.own
  have HS : Hid (Bs s ∧ F g ∧ s.length ≤ cap ∧ cap ≤ maxLen) := ⟨hs.ok, hs.foot g rfl, h1, h2⟩
  have HR0 : Hid (w.rowIs g 5 cap f) := r
  have HF : Hid (∀ i, i < s.length → f i = .int .u8 ((gd s i : Nat) : Int)) := fun i hi => by
    have := hf i hi
    rw [bv_at hi] at this
    exact (Option.some.inj this).symm
  have hn := hs.ok.1
  obtain ⟨n, en⟩ : ∃ n, n = s.length := ⟨_, rfl⟩
  have HE : Hid (n = s.length) := en
  rw [← en] at hn h1 ⊢
  clear hs hf h2 h3 r en
  go_enter Try.func15, Try.ntmps15
  go_wp2_with fail
  go_loopg [2] n (fun k' i wr => ∃ k : Nat, k ≤ n ∧ k' = n - k ∧ i = .int .i64 k ∧ Turn (fun i => i = g) w wr ∧ ∃ G : Nat → Value, wr.rowIs g 5 cap G ∧ (∀ i, i < k → G i = .int .u8 ((gd s i ^^^ 1 : Nat) : Int)) ∧ ∀ i, k ≤ i → G i = f i)
  case atStart => exact ⟨0, Nat.zero_le _, rfl, rfl, Turn.refl _ _, f, HR0.out, fun i hi => absurd hi (by omega), fun _ _ => rfl⟩
  case round =>
    obtain ⟨k, hk, rfl, rfl, ht, G, hR, hd, hG⟩ := hrel
    clear HR0
    by_cases hkn : k < n
    · have cc := hR.cell (i := k) (by omega)
      have fz := hR.frozen k
      rw [hG k (Nat.le_refl _), HF.out k (by have := HE.out; omega)] at cc
      have hz : gd s k < 256 := gd_lt HS.out.1.2 k
      have HR : Hid (wr.rowIs g 5 cap G ∧ Turn (fun i => i = g) w wr ∧ (∀ i, i < k → G i = .int .u8 ((gd s i ^^^ 1 : Nat) : Int)) ∧ ∀ i, k ≤ i → G i = f i) := ⟨hR, ht, hd, hG⟩
      obtain ⟨z, hze⟩ : ∃ z, z = gd s k := ⟨_, rfl⟩
      have HZ : Hid (z = gd s k) := hze
      rw [← hze] at cc hz
      have hxx := u8_xor_nat z 1 hz (by decide)
      rw [show ((1 : Nat) : Int) = (1 : Int) from rfl] at hxx
      clear hR ht hd hG hze
      go_wp2_with fail
      go_roundg (n - (k + 1))
      case measure => omega
      case rel =>
        refine ⟨k + 1, by omega, rfl, by go_num, HR.out.2.1.trans (Turn.setCell wr ⟨g, k, none⟩ _ (F := fun i => i = g) rfl) (fun i q => Or.inl q), _, HR.out.1.set k _, fun i hi => ?_, fun i hi => ?_⟩
        · by_cases e : i = k
          · subst e
            rw [if_pos rfl, ← HZ.out]
          · rw [if_neg e]
            exact HR.out.2.2.1 i (by omega)
        · rw [if_neg (by omega)]
          exact HR.out.2.2.2 i (by omega)
    · have k1 : k = n := by omega
      subst k1
      have HR : Hid (wr.rowIs g 5 cap G ∧ Turn (fun i => i = g) w wr ∧ (∀ i, i < k → G i = .int .u8 ((gd s i ^^^ 1 : Nat) : Int))) := ⟨hR, ht, hd⟩
      clear hR ht hd hG
      go_wp2_with fail
      go_end0
      have e := HE.out
      refine ⟨rfl, ⟨?_, fun g' hg' => (Option.some.inj hg') ▸ HS.out.2.1, ⟨by rw [tw_len]; exact HS.out.1.1, fun x hx => ?_⟩⟩, HR.out.2.1⟩
      · rw [tw_len, ← e]
        refine row_own HR.out.1 (Nat.zero_le _) (by have := HS.out.2.2.1; omega) HS.out.2.2.2 _ (by rw [bv_len, tw_len, e]) (fun i hi => ?_)
        rw [HR.out.2.2 i hi]
        unfold bv tw
        rw [List.map_map, List.getElem?_map, List.getElem?_eq_getElem (by omega), gd_get (by omega)]
        rfl
      · unfold tw at hx
        obtain ⟨y, hy, rfl⟩ := List.mem_map.1 hx
        have := HS.out.1.2 y hy
        exact Nat.xor_lt_two_pow (n := 8) this (by decide)

end Go.Proofs.Ytnknhjabebcmeaa
