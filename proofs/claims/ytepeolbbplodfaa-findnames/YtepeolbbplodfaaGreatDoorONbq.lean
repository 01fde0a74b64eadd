import Derived.Test.YtepeolbbplodfaaGreatDoorGuq
import Derived.Test.YtepeolbbplodfaaGreatDoorAptq
import Derived.Laws.BitsAllLaws
import Derived.Test.YtepeolbbplodfaaGreatDoorYrq
import Derived.Deep.RegionHeld3
/-
  cairnlaw01: Roomy, Whole, Turn.
-/
namespace Go.Proofs.YtepeolbbplodfaaGreatDoor
open Go.RowKit

def mks : List Nat := [77, 78, 79]
theorem view_new3 (w : World) : View (w.alloc (.cells #[.int .u8 77, .int .u8 78, .int .u8 79] 5)) (some ⟨w.heap.size, 0, none⟩) w.heap.size 0 3 (fun i => ((gd mks i : Nat) : Int)) := by
  refine ⟨fun _ => rfl, fun i hi => ?_, fun i _ => ?_, by omega⟩
  · rw [cell_of_row _ _ _ _ 5 _ (heap_alloc_new w _)]
    match i, hi with
    | 0, _ => rfl
    | 1, _ => rfl
    | 2, _ => rfl
  · have := gd_lt (s := mks) (by decide) i
    omega

set_option maxRecDepth 100000 in
set_option maxHeartbeats 1600000 in
theorem roomy_any4 (w : World) (a : Option Addr) (b off c : Nat) (t : List Nat) (hv : Vw w a b off t) (hnil : a = none → c = 0) (hn : t.length ≤ 140737488351232) :
    Calls Tryz.prog 22 #[.slice a t.length c] w fun e w' => ∃ g cap, e = .returned (.slice (some ⟨g, 0, none⟩) t.length cap) ∧
      Str w' (fun i => i = g) (.slice (some ⟨g, 0, none⟩) (t ++ mks).length cap) (t ++ mks) ∧ w.heap.size ≤ g ∧ Below w.heap.size w w' := by
  have own0 := World.ownsRow_lit (base := w.heap.size) (e := 5) (size := 1) w #[] 0 (Nat.le_refl _) (by decide) rfl
  have v0 : Vw (w.alloc (.cells #[] 5)) a b off t := hv.below ((Below.refl _ _).alloc (Nat.le_refl _) _)
  have HV0 : Hid (Vw (w.alloc (.cells #[] 5)) a b off t) := v0
  have HK : Hid (Bs t) := vw_ok hv
  clear hv v0
  go_enter Tryz.func22, Tryz.ntmps22
  go_wp2_with (refine wpList_append_bytes (by rfl) (.tmp 3) (.tmp 4) (by rfl) w.heap.size _ 0 [] (by rfl) own0 a b off t.length c _ (by rfl) HV0.out hnil (by omega) (by simp) ?_)
  intro v1 w1 own1 gr1 nn1
  have b1 : Below w.heap.size w w1 := ((Below.refl _ _).alloc (Nat.le_refl _) _).trans (grown_below gr1 own0 (Nat.le_refl _) (by simp))
  replace own1 : w1.ownsRow w.heap.size 5 1 v1 t.length (bv t) := by rw [← vals_bv t]; simpa using own1
  clear own0 gr1 nn1 HV0
  have s1 := b1.size
  go_wp2_with (refine wpList_append_bytes (by rfl) (.tmp 5) (.tmp 6) (by rfl) w.heap.size _ t.length _ (by rfl) (own1.alloc _) (some ⟨w1.heap.size, 0, none⟩) w1.heap.size 0 3 3 _ (by rfl) (view_new3 w1) (fun h => by cases h) (by omega) (by simp; omega) ?_)
  intro v2 w2 own2 gr2 nn2
  have b2 : Below w.heap.size w w2 := (b1.alloc s1 _).trans (grown_below gr2 (own1.alloc _) (Nat.le_refl _) (by simp; omega))
  have em : vals (fun i => ((gd mks i : Nat) : Int)) 3 = bv mks := vals_bv mks
  rw [em, ← bv_app] at own2
  clear own1 gr2 nn2 b1 s1 em
  obtain ⟨g, cap, rfl, hB, hg⟩ := own2.form (by omega)
  have hcap := (own_row own2).2.1
  have j1 := slice_upto (some ⟨g, 0, none⟩) (t.length + 3) cap t.length (by omega)
  have j2 := sliceAt_upto (some ⟨g, 0, none⟩) (t.length + 3) cap t.length (by omega)
  have HO : Hid (w2.ownsRow w.heap.size 5 1 (.slice (some ⟨g, 0, none⟩) (t.length + 3) cap) (t.length + 3) (bv (t ++ mks)) ∧ Below w.heap.size w w2 ∧ w.heap.size ≤ g) := ⟨own2, b2, hB⟩
  clear own2 b2 hB
  go_wp2_with fail
  go_ret
  have el : (t ++ mks).length = t.length + 3 := by simp [mks]
  refine ⟨g, cap, rfl, ⟨by rw [el]; exact own_base HO.out.1, fun g' hg' => (Option.some.inj hg').symm, ⟨by rw [el]; omega, fun x hx => ?_⟩⟩, HO.out.2.2, HO.out.2.1⟩
  rcases List.mem_append.1 hx with hx | hx
  · exact HK.out.2 x hx
  · have : ∀ y ∈ mks, y < 256 := by decide
    exact this x hx

set_option maxRecDepth 100000 in
set_option maxHeartbeats 1600000 in
theorem whole_any4 (w : World) (F : Nat → Prop) (g cap : Nat) (t : List Nat) (hs : Str w F (.slice (some ⟨g, 0, none⟩) (t ++ mks).length cap) (t ++ mks)) (a : Option Addr) (b off c : Nat) (hv : Vw w a b off t) :
    Calls Tryz.prog 27 #[.slice (some ⟨g, 0, none⟩) t.length cap, .slice a t.length c] w fun e w' => e = .returned (.bool true) ∧ ∃ q, w' = w.drewN q := by
  have el : (t ++ mks).length = t.length + 3 := by simp [mks]
  have hp := str_pre hs
  obtain ⟨a0, g0, c0, e0, _, v0, _⟩ := hp.view
  injection e0 with e1 _ e3
  subst e1
  subst e3
  have K := rsame_any w _ _ _ _ cap _ _ c _ _ v0 hv
  rw [decide_eq_true rfl] at K
  have cc : ∀ j, j < t.length + 3 → w.cell? ⟨g, j, none⟩ = some (.int .u8 ((gd (t ++ mks) j : Nat) : Int)) := fun j hj => by
    have := hs.own.cells (g := g) rfl j _ (bv_at (by omega))
    rw [show (⟨g, 0, none⟩ : Addr).add j = ⟨g, j, none⟩ by unfold Addr.add; split <;> simp_all] at this
    exact this
  have gm : ∀ j, gd (t ++ mks) (t.length + j) = gd mks j := fun j => by unfold gd; rw [List.getD_eq_getElem?_getD, List.getD_eq_getElem?_getD, List.getElem?_append_right (by omega), Nat.add_sub_cancel_left]
  have m0 := cc (t.length + 0) (by omega)
  have m1 := cc (t.length + 1) (by omega)
  have m2 := cc (t.length + 2) (by omega)
  rw [gm, Nat.add_zero, show ((gd mks 0 : Nat) : Int) = 77 from rfl] at m0
  rw [gm, show ((gd mks 1 : Nat) : Int) = 78 from rfl] at m1
  rw [gm, show ((gd mks 2 : Nat) : Int) = 79 from rfl] at m2
  have hr := (own_row hs.own).2.1
  have hn := hp.ok.1
  rw [el] at hr
  have HK : Hid (Calls Tryz.prog 18 #[.slice (some ⟨g, 0, none⟩) t.length cap, .slice a t.length c] w fun e w' => e = .returned (.bool true) ∧ ∃ q, w' = w.drewN q) := K
  clear K hs hp v0 hv cc gm el
  have j1 := fun u => sliceAt_upto (some ⟨g, 0, none⟩) t.length cap (t.length + 3) hr u
  have j2 := fun u => slice_upto (some ⟨g, 0, none⟩) t.length cap (t.length + 3) hr u
  rw [show ((t.length + 3 : Nat) : Int) = (t.length : Int) + 3 by omega] at j1 j2
  generalize t.length = n at *
  have i1 : (n : Int) < (n : Int) + 3 := by omega
  go_enter Tryz.func27, Tryz.ntmps27
  go_wp2_with fail
  refine HK.out.mono ?_
  rintro e w1 ⟨rfl, q, rfl⟩
  go_wp2
  go_ret
  exact ⟨rfl, q, rfl⟩

/-- the lowest bit of each turned -/
def tw (s : List Nat) : List Nat := s.map (fun x => x ^^^ 1)
theorem tw_len (s : List Nat) : (tw s).length = s.length := by simp [tw]

set_option maxRecDepth 100000 in
set_option maxHeartbeats 1600000 in
theorem turn_any4 (w : World) (F : Nat → Prop) (g cap : Nat) (s : List Nat) (hs : Str w F (.slice (some ⟨g, 0, none⟩) s.length cap) s) :
    Calls Tryz.prog 28 #[.slice (some ⟨g, 0, none⟩) s.length cap] w fun e w' => e = .returned (.tuple #[]) ∧ Str w' F (.slice (some ⟨g, 0, none⟩) s.length cap) (tw s) ∧ Turn (fun i => i = g) w w' := by
  obtain ⟨⟨f, r, hf⟩, h1, h2, h3⟩ := own_row hs.own
  have HS : Hid (Bs s ∧ F g ∧ s.length ≤ cap ∧ cap ≤ maxLen) := ⟨hs.ok, hs.foot g rfl, h1, h2⟩
  have HR0 : Hid (w.rowIs g 5 cap f) := r
  have HF : Hid (∀ i, i < s.length → f i = .int .u8 ((gd s i : Nat) : Int)) := fun i hi => by
    have := hf i hi
    rw [bv_at hi] at this
    exact (Option.some.inj this).symm
  have hn := hs.ok.1
  obtain ⟨n, en⟩ : ∃ n, n = s.length := ⟨_, rfl⟩
  have HE : Hid (n = s.length) := en
  rw [← en] at hn h1 ⊢
  clear hs hf h2 h3 r en
  go_enter Tryz.func28, Tryz.ntmps28
  go_wp2_with fail
  go_loopg [2] n (fun k' i wr => ∃ k : Nat, k ≤ n ∧ k' = n - k ∧ i = .int .i64 k ∧ Turn (fun i => i = g) w wr ∧ ∃ G : Nat → Value, wr.rowIs g 5 cap G ∧ (∀ i, i < k → G i = .int .u8 ((gd s i ^^^ 1 : Nat) : Int)) ∧ ∀ i, k ≤ i → G i = f i)
  case atStart => exact ⟨0, Nat.zero_le _, rfl, rfl, Turn.refl _ _, f, HR0.out, fun i hi => absurd hi (by omega), fun _ _ => rfl⟩
  case round =>
    obtain ⟨k, hk, rfl, rfl, ht, G, hR, hd, hG⟩ := hrel
    clear HR0
    by_cases hkn : k < n
    · have cc := hR.cell (i := k) (by omega)
      have fz := hR.frozen k
      rw [hG k (Nat.le_refl _), HF.out k (by have := HE.out; omega)] at cc
      have hz : gd s k < 256 := gd_lt HS.out.1.2 k
      have HR : Hid (wr.rowIs g 5 cap G ∧ Turn (fun i => i = g) w wr ∧ (∀ i, i < k → G i = .int .u8 ((gd s i ^^^ 1 : Nat) : Int)) ∧ ∀ i, k ≤ i → G i = f i) := ⟨hR, ht, hd, hG⟩
      obtain ⟨z, hze⟩ : ∃ z, z = gd s k := ⟨_, rfl⟩
      have HZ : Hid (z = gd s k) := hze
      rw [← hze] at cc hz
      have hxx := u8_xor_nat z 1 hz (by decide)
      rw [show ((1 : Nat) : Int) = (1 : Int) from rfl] at hxx
      clear hR ht hd hG hze
      go_wp2_with fail
      go_roundg (n - (k + 1))
      case measure => omega
      case rel =>
        refine ⟨k + 1, by omega, rfl, by go_num, HR.out.2.1.trans (Turn.setCell wr ⟨g, k, none⟩ _ (F := fun i => i = g) rfl) (fun i q => Or.inl q), _, HR.out.1.set k _, fun i hi => ?_, fun i hi => ?_⟩
        · by_cases e : i = k
          · subst e
            rw [if_pos rfl, ← HZ.out]
          · rw [if_neg e]
            exact HR.out.2.2.1 i (by omega)
        · rw [if_neg (by omega)]
          exact HR.out.2.2.2 i (by omega)
    · have k1 : k = n := by omega
      subst k1
      have HR : Hid (wr.rowIs g 5 cap G ∧ Turn (fun i => i = g) w wr ∧ (∀ i, i < k → G i = .int .u8 ((gd s i ^^^ 1 : Nat) : Int))) := ⟨hR, ht, hd⟩
      clear hR ht hd hG
      go_wp2_with fail
      go_end0
      have e := HE.out
      refine ⟨rfl, ⟨?_, fun g' hg' => (Option.some.inj hg') ▸ HS.out.2.1, ⟨by rw [tw_len]; exact HS.out.1.1, fun x hx => ?_⟩⟩, HR.out.2.1⟩
      · rw [tw_len, ← e]
        refine row_own HR.out.1 (Nat.zero_le _) (by have := HS.out.2.2.1; omega) HS.out.2.2.2 _ (by rw [bv_len, tw_len, e]) (fun i hi => ?_)
        rw [HR.out.2.2 i hi]
        unfold bv tw
        rw [List.map_map, List.getElem?_map, List.getElem?_eq_getElem (by omega), gd_get (by omega)]
        rfl
      · unfold tw at hx
        obtain ⟨y, hy, rfl⟩ := List.mem_map.1 hx
        have := HS.out.1.2 y hy
        exact Nat.xor_lt_two_pow (n := 8) this (by decide)

end Go.Proofs.YtepeolbbplodfaaGreatDoor

/-
  path.Pack of an even path.
-/
namespace Go.Proofs.YtepeolbbplodfaaGreatDoor
open Go.RowKit

set_option maxRecDepth 100000 in
set_option maxHeartbeats 1600000 in
theorem pack_0f (w : World) (a : Option Addr) (b off c : Nat) (s : List Nat) (hv : Vw w a b off s) (hp : IsP s) (ho : s.length % 2 = 0) :
    Calls Tryz.prog 150 #[.slice a s.length c, .bool false] w fun e w' => ∃ v, e = .returned (.tuple #[v, .int .i64 0]) ∧ Ans w w' v (pkL false s) := by
  have K := isPath_any w a b off c s hv
  rw [decide_eq_true hp] at K
  have HB : Hid (∀ i, gd s i ≤ 15) := fun i => by
    by_cases q : i < s.length
    · exact hp.2 i q
    · rw [gd_out (by omega)]; decide
  have hl := hp.1
  have HO : Hid (s.length % 2 = 0) := ho
  have HV : Hid (View w a b off s.length (fun i => ((gd s (0 + i) : Nat) : Int))) := hv.congr (fun i _ => by rw [Nat.zero_add])
  have HP : Hid (IsP s ∧ pkL false s = lst (1 + s.length / 2) (pkY false s) ∧ pkY false s 0 = 0) := ⟨hp, rfl, by rw [pk_first, if_pos ho]; rfl⟩
  have e1 : ((s.length : Int) % 2 == 1) = false := by simp; omega
  clear hv hp
  obtain ⟨n, en⟩ : ∃ n, n = s.length := ⟨_, rfl⟩
  have HE : Hid (n = s.length) := en
  rw [← en] at hl HV K e1 ho ⊢
  clear en
  have hmk := run_make_row' (P := Tryz.prog) 33 5 (.int .u8 0) 1 Tryz.underlying33 Tryz.info5 rfl .i64 .i64 (1 + n / 2) (by omega) (by omega)
  rw [show ((1 + n / 2 : Nat) : Int) = 1 + (n : Int) / 2 by omega] at hmk
  have HW : Hid (View w a b off n (fun i => ((gd s (0 + i) : Nat) : Int))) := HV.out
  have HK : Hid (Calls Tryz.prog 157 #[.slice a n c] w fun e w' => e = .returned (.bool true) ∧ w' = w) := K
  clear K
  go_enter Tryz.func150, Tryz.ntmps150
  go_wp2_with fail
  refine HK.out.mono ?_
  rintro e w1 ⟨rfl, rfl⟩
  go_wp2_with fail
  clear hmk
  have NR : NewRow w1 (w1.alloc (.cells (madeCells #[.int .u8 0] (1 + n / 2)) 5)) (1 + n / 2) (fun _ => 0) := NewRow.made w1 (1 + n / 2)
  have HN : Hid (NewRow w1 (w1.alloc (.cells (madeCells #[.int .u8 0] (1 + n / 2)) 5)) (1 + n / 2) (pkZ false s 0)) := pkZ_first NR HP.out.2.2.symm (fun _ _ => rfl)
  clear NR
  go_loopg [39] (n / 2) (fun g i wr => ∃ k : Nat, k ≤ n / 2 ∧ g = n / 2 - k ∧ i = .int .i64 k ∧ NewRow w1 wr (1 + n / 2) (pkZ false s k))
  case atStart => exact ⟨0, Nat.zero_le _, rfl, rfl, HN.out⟩
  case round =>
    obtain ⟨k, hk, rfl, rfl, hR⟩ := hrel
    have HR : Hid (NewRow w1 wr (1 + n / 2) (pkZ false s k)) := hR
    clear HN
    by_cases hkn : k < n / 2
    · have k1 : 2 * k < n := by omega
      have k2 : 2 * k + 1 < n := by omega
      obtain rfl := HW.out.at_ (by omega)
      have hlt := HW.out.lt (by omega)
      have c1 : wr.cell? ⟨b, off + (2 * k), none⟩ = some (.int .u8 ((gd s (0 + 2 * k) : Nat) : Int)) := (hR.below.cell (p := ⟨b, off + (2 * k), none⟩) hlt).trans (HW.out.cell (2 * k) k1)
      have c2 : wr.cell? ⟨b, off + (2 * k + 1), none⟩ = some (.int .u8 ((gd s (0 + (2 * k + 1)) : Nat) : Int)) := (hR.below.cell (p := ⟨b, off + (2 * k + 1), none⟩) hlt).trans (HW.out.cell (2 * k + 1) k2)
      have z1 : gd s (0 + 2 * k) ≤ 15 := HB.out _
      have z2 : gd s (0 + (2 * k + 1)) ≤ 15 := HB.out _
      have s1 := hR.row.cell (i := 1 + k) (by omega)
      have f1 := hR.row.frozen (1 + k)
      have HY : Hid (∀ x : Int, x = 16 * ((gd s (0 + 2 * k) : Nat) : Int) + ((gd s (0 + (2 * k + 1)) : Nat) : Int) → x = ((pkY false s (1 + k) : Nat) : Int)) := fun x hx => by
        rw [hx, pk_next, HO.out]
        rw [show 0 + (2 * k + 1) = 0 + 2 * k + 1 by omega]
        omega
      obtain ⟨zz, hzz⟩ : ∃ zz, zz = pkZ false s k (1 + k) := ⟨_, rfl⟩
      rw [← hzz] at s1
      clear hzz
      obtain ⟨x, hx⟩ : ∃ x, x = gd s (0 + 2 * k) := ⟨_, rfl⟩
      obtain ⟨y, hy⟩ : ∃ y, y = gd s (0 + (2 * k + 1)) := ⟨_, rfl⟩
      rw [← hx] at c1 z1 HY
      rw [← hy] at c2 z2 HY
      clear hx hy
      have q1 := u8_same (16 * (x : Int)) (by omega) (by omega)
      have q2 := u8_same (16 * (x : Int) + (y : Int)) (by omega) (by omega)
      have o1 : (0 : Int) ≤ 2 * (k : Int) := by omega
      have o2 : (0 : Int) ≤ 2 * (k : Int) + 1 := by omega
      have o3 : IntKind.i64.wrap (2 * (k : Int)) = 2 * (k : Int) := by rw [IntKind.wrap_i64]; omega
      have o3b : IntKind.i64.wrap (2 * (k : Int) + 1) = 2 * (k : Int) + 1 := by rw [IntKind.wrap_i64]; omega
      have o3c : IntKind.i64.wrap (1 + (k : Int)) = 1 + (k : Int) := by rw [IntKind.wrap_i64]; omega
      have o4 : (2 * (k : Int)).toNat = 2 * k := by omega
      have o5 : (2 * (k : Int) + 1).toNat = 2 * k + 1 := by omega
      have o6 : (1 + (k : Int)).toNat = 1 + k := by omega
      have i1 : 2 * (k : Int) < ((n : Nat) : Int) := by omega
      have i2 : 2 * (k : Int) + 1 < ((n : Nat) : Int) := by omega
      have i3 : 1 + (k : Int) < ((1 + n / 2 : Nat) : Int) := by omega
      have i4 : (0 : Int) ≤ 1 + (k : Int) := by omega
      have i5 : (k : Int) < ((n : Nat) : Int) / 2 := by omega
      have i6 : (k : Int) < (n : Int) / 2 := by omega
      have hbn : b ≠ w1.heap.size := by omega
      clear hR hlt k1 k2
      go_wp2_with fail
      go_region_held3 (fun w' => w'.cell? ⟨b, off + (2 * k), none⟩ = some (.int .u8 (x : Int)) ∧ w'.cell? ⟨b, off + (2 * k + 1), none⟩ = some (.int .u8 (y : Int))) (first | (refine ⟨?_, ?_⟩ <;> (rw [World.cell?_drew, World.cell?_setCell_other _ _ _ _ (fun h => hbn (congrArg Addr.block h).symm)]; assumption)) | go_keep) (fail)
      have R := pkZ_step HR.out (HY.out _ rfl)
      go_wp2_with fail
      go_roundg (n / 2 - (k + 1))
      case measure => omega
      case rel => exact ⟨k + 1, by omega, rfl, by go_num, R.drew⟩
    · have : k = n / 2 := by omega
      subst this
      have i5 : ¬ ((n / 2 : Nat) : Int) < ((n : Nat) : Int) / 2 := by omega
      go_wp2_with fail
      go_ret2
      have r : NewRow w1 wr (1 + n / 2) (pkY false s) := HR.out.congr (fun i hi => by unfold pkZ; rw [if_pos hi])
      refine ⟨_, rfl, ?_⟩
      rw [HP.out.2.1, ← HE.out]
      exact r.ans (fun i _ => pkY_lt false HP.out.1.2 i) (by omega)

set_option maxRecDepth 100000 in
set_option maxHeartbeats 1600000 in
theorem pack_0t (w : World) (a : Option Addr) (b off c : Nat) (s : List Nat) (hv : Vw w a b off s) (hp : IsP s) (ho : s.length % 2 = 0) :
    Calls Tryz.prog 150 #[.slice a s.length c, .bool true] w fun e w' => ∃ v, e = .returned (.tuple #[v, .int .i64 0]) ∧ Ans w w' v (pkL true s) := by
  have K := isPath_any w a b off c s hv
  rw [decide_eq_true hp] at K
  have HB : Hid (∀ i, gd s i ≤ 15) := fun i => by
    by_cases q : i < s.length
    · exact hp.2 i q
    · rw [gd_out (by omega)]; decide
  have hl := hp.1
  have HO : Hid (s.length % 2 = 0) := ho
  have HV : Hid (View w a b off s.length (fun i => ((gd s (0 + i) : Nat) : Int))) := hv.congr (fun i _ => by rw [Nat.zero_add])
  have HP : Hid (IsP s ∧ pkL true s = lst (1 + s.length / 2) (pkY true s) ∧ pkY true s 0 = 32) := ⟨hp, rfl, by rw [pk_first, if_pos ho]; rfl⟩
  have e1 : ((s.length : Int) % 2 == 1) = false := by simp; omega
  clear hv hp
  obtain ⟨n, en⟩ : ∃ n, n = s.length := ⟨_, rfl⟩
  have HE : Hid (n = s.length) := en
  rw [← en] at hl HV K e1 ho ⊢
  clear en
  have hmk := run_make_row' (P := Tryz.prog) 33 5 (.int .u8 0) 1 Tryz.underlying33 Tryz.info5 rfl .i64 .i64 (1 + n / 2) (by omega) (by omega)
  rw [show ((1 + n / 2 : Nat) : Int) = 1 + (n : Int) / 2 by omega] at hmk
  have s0 : (w.alloc (.cells (madeCells #[.int .u8 0] (1 + n / 2)) 5)).cell? ⟨w.heap.size, 0, none⟩ = some (.int .u8 0) := (NewRow.made w (1 + n / 2)).row.cell (i := 0) (by omega)
  have f0 : (w.alloc (.cells (madeCells #[.int .u8 0] (1 + n / 2)) 5)).frozen? ⟨w.heap.size, 0, none⟩ = false := (NewRow.made w (1 + n / 2)).row.frozen 0
  have HW : Hid (View w a b off n (fun i => ((gd s (0 + i) : Nat) : Int))) := HV.out
  have HK : Hid (Calls Tryz.prog 157 #[.slice a n c] w fun e w' => e = .returned (.bool true) ∧ w' = w) := K
  clear K
  go_enter Tryz.func150, Tryz.ntmps150
  go_wp2_with fail
  refine HK.out.mono ?_
  rintro e w1 ⟨rfl, rfl⟩
  go_wp2_with fail
  clear hmk
  have NR : NewRow w1 (w1.alloc (.cells ((madeCells #[.int .u8 0] (1 + n / 2)).setIfInBounds 0 (.int .u8 32)) 5)) (1 + n / 2) (fun j => if j = 0 then 32 else 0) := new_first w1 (1 + n / 2)
  have HN : Hid (NewRow w1 (w1.alloc (.cells ((madeCells #[.int .u8 0] (1 + n / 2)).setIfInBounds 0 (.int .u8 32)) 5)) (1 + n / 2) (pkZ true s 0)) := pkZ_first NR HP.out.2.2.symm (fun i hi => by show (if i = 0 then 32 else 0) = 0; rw [if_neg (by omega)])
  clear NR
  go_loopg [39] (n / 2) (fun g i wr => ∃ k : Nat, k ≤ n / 2 ∧ g = n / 2 - k ∧ i = .int .i64 k ∧ NewRow w1 wr (1 + n / 2) (pkZ true s k))
  case atStart => exact ⟨0, Nat.zero_le _, rfl, rfl, HN.out⟩
  case round =>
    obtain ⟨k, hk, rfl, rfl, hR⟩ := hrel
    have HR : Hid (NewRow w1 wr (1 + n / 2) (pkZ true s k)) := hR
    clear HN
    by_cases hkn : k < n / 2
    · have k1 : 2 * k < n := by omega
      have k2 : 2 * k + 1 < n := by omega
      obtain rfl := HW.out.at_ (by omega)
      have hlt := HW.out.lt (by omega)
      have c1 : wr.cell? ⟨b, off + (2 * k), none⟩ = some (.int .u8 ((gd s (0 + 2 * k) : Nat) : Int)) := (hR.below.cell (p := ⟨b, off + (2 * k), none⟩) hlt).trans (HW.out.cell (2 * k) k1)
      have c2 : wr.cell? ⟨b, off + (2 * k + 1), none⟩ = some (.int .u8 ((gd s (0 + (2 * k + 1)) : Nat) : Int)) := (hR.below.cell (p := ⟨b, off + (2 * k + 1), none⟩) hlt).trans (HW.out.cell (2 * k + 1) k2)
      have z1 : gd s (0 + 2 * k) ≤ 15 := HB.out _
      have z2 : gd s (0 + (2 * k + 1)) ≤ 15 := HB.out _
      have s1 := hR.row.cell (i := 1 + k) (by omega)
      have f1 := hR.row.frozen (1 + k)
      have HY : Hid (∀ x : Int, x = 16 * ((gd s (0 + 2 * k) : Nat) : Int) + ((gd s (0 + (2 * k + 1)) : Nat) : Int) → x = ((pkY true s (1 + k) : Nat) : Int)) := fun x hx => by
        rw [hx, pk_next, HO.out]
        rw [show 0 + (2 * k + 1) = 0 + 2 * k + 1 by omega]
        omega
      obtain ⟨zz, hzz⟩ : ∃ zz, zz = pkZ true s k (1 + k) := ⟨_, rfl⟩
      rw [← hzz] at s1
      clear hzz
      obtain ⟨x, hx⟩ : ∃ x, x = gd s (0 + 2 * k) := ⟨_, rfl⟩
      obtain ⟨y, hy⟩ : ∃ y, y = gd s (0 + (2 * k + 1)) := ⟨_, rfl⟩
      rw [← hx] at c1 z1 HY
      rw [← hy] at c2 z2 HY
      clear hx hy
      have q1 := u8_same (16 * (x : Int)) (by omega) (by omega)
      have q2 := u8_same (16 * (x : Int) + (y : Int)) (by omega) (by omega)
      have o1 : (0 : Int) ≤ 2 * (k : Int) := by omega
      have o2 : (0 : Int) ≤ 2 * (k : Int) + 1 := by omega
      have o3 : IntKind.i64.wrap (2 * (k : Int)) = 2 * (k : Int) := by rw [IntKind.wrap_i64]; omega
      have o3b : IntKind.i64.wrap (2 * (k : Int) + 1) = 2 * (k : Int) + 1 := by rw [IntKind.wrap_i64]; omega
      have o3c : IntKind.i64.wrap (1 + (k : Int)) = 1 + (k : Int) := by rw [IntKind.wrap_i64]; omega
      have o4 : (2 * (k : Int)).toNat = 2 * k := by omega
      have o5 : (2 * (k : Int) + 1).toNat = 2 * k + 1 := by omega
      have o6 : (1 + (k : Int)).toNat = 1 + k := by omega
      have i1 : 2 * (k : Int) < ((n : Nat) : Int) := by omega
      have i2 : 2 * (k : Int) + 1 < ((n : Nat) : Int) := by omega
      have i3 : 1 + (k : Int) < ((1 + n / 2 : Nat) : Int) := by omega
      have i4 : (0 : Int) ≤ 1 + (k : Int) := by omega
      have i5 : (k : Int) < ((n : Nat) : Int) / 2 := by omega
      have i6 : (k : Int) < (n : Int) / 2 := by omega
      have hbn : b ≠ w1.heap.size := by omega
      clear hR hlt k1 k2
      go_wp2_with fail
      go_region_held3 (fun w' => w'.cell? ⟨b, off + (2 * k), none⟩ = some (.int .u8 (x : Int)) ∧ w'.cell? ⟨b, off + (2 * k + 1), none⟩ = some (.int .u8 (y : Int))) (first | (refine ⟨?_, ?_⟩ <;> (rw [World.cell?_drew, World.cell?_setCell_other _ _ _ _ (fun h => hbn (congrArg Addr.block h).symm)]; assumption)) | go_keep) (fail)
      have R := pkZ_step HR.out (HY.out _ rfl)
      go_wp2_with fail
      go_roundg (n / 2 - (k + 1))
      case measure => omega
      case rel => exact ⟨k + 1, by omega, rfl, by go_num, R.drew⟩
    · have : k = n / 2 := by omega
      subst this
      have i5 : ¬ ((n / 2 : Nat) : Int) < ((n : Nat) : Int) / 2 := by omega
      go_wp2_with fail
      go_ret2
      have r : NewRow w1 wr (1 + n / 2) (pkY true s) := HR.out.congr (fun i hi => by unfold pkZ; rw [if_pos hi])
      refine ⟨_, rfl, ?_⟩
      rw [HP.out.2.1, ← HE.out]
      exact r.ans (fun i _ => pkY_lt true HP.out.1.2 i) (by omega)
end Go.Proofs.YtepeolbbplodfaaGreatDoor

/-
  path.Pack.
-/
namespace Go.Proofs.YtepeolbbplodfaaGreatDoor
open Go.RowKit

set_option maxRecDepth 100000 in
set_option maxHeartbeats 400000 in
theorem pack_no (w : World) (a : Option Addr) (b off c : Nat) (s : List Nat) (leaf : Bool) (hv : Vw w a b off s) (hp : ¬ IsP s) :
    Calls Tryz.prog 150 #[.slice a s.length c, .bool leaf] w fun e w' => e = .returned (.tuple #[.slice none 0 0, .int .i64 60]) ∧ w' = w := by
  have K := isPath_any w a b off c s hv
  rw [decide_eq_false hp] at K
  have HK : Hid (Calls Tryz.prog 157 #[.slice a s.length c] w fun e w' => e = .returned (.bool false) ∧ w' = w) := K
  have hn := hv.len
  clear K hv hp
  generalize s.length = n at *
  go_enter Tryz.func150, Tryz.ntmps150
  go_wp2_with fail
  refine HK.out.mono ?_
  rintro e w1 ⟨rfl, rfl⟩
  go_wp2_with fail
  go_ret2
  exact ⟨rfl, rfl⟩
/-- P6.2 -/
theorem pack_any (w : World) (a : Option Addr) (b off c : Nat) (s : List Nat) (leaf : Bool) (hv : Vw w a b off s) (hc : s.length ≤ c) :
    Calls Tryz.prog 150 #[.slice a s.length c, .bool leaf] w fun e w' => ∃ v, e = .returned (.tuple #[v, .int .i64 ((pkE s : Nat) : Int)]) ∧ Ans w w' v (pkR leaf s) := by
  by_cases hp : IsP s
  · have e1 : pkE s = 0 := if_pos hp
    have e2 : pkR leaf s = pkL leaf s := if_pos hp
    rw [e1, e2]
    by_cases ho : s.length % 2 = 0
    · cases leaf
      · exact pack_0f w a b off c s hv hp ho
      · exact pack_0t w a b off c s hv hp ho
    · have ho1 : s.length % 2 = 1 := by omega
      cases leaf
      · exact pack_1f w a b off c s hv hc hp ho1
      · exact pack_1t w a b off c s hv hc hp ho1
  · have e1 : pkE s = 60 := if_neg hp
    have e2 : pkR leaf s = [] := if_neg hp
    rw [e1, e2]
    refine (pack_no w a b off c s leaf hv hp).mono ?_
    rintro e w' ⟨rfl, rfl⟩
    exact ⟨_, rfl, ans_nil (Below.refl _ _)⟩
end Go.Proofs.YtepeolbbplodfaaGreatDoor

/-
  Decode.
-/
namespace Go.Proofs.YtepeolbbplodfaaGreatDoor
open Go.RowKit

def decX (s : List Nat) : It := match dec s with | .ok x => x | .bad _ _ => .mk false [] []
def decP (s : List Nat) : Nat := match dec s with | .ok _ => 0 | .bad p _ => p
def decE (s : List Nat) : Nat := match dec s with | .ok _ => 0 | .bad _ e => e
/-- WHAT Decode ANSWERS -/
def DecPost (s : List Nat) (w : World) (r : Ending) (w' : World) : Prop :=
  ∃ vb vi, r = .returned (.tuple #[iv (decX s).l vb vi, .int .i64 (decP s), .int .i64 (decE s)]) ∧ Own w' w.heap.size w'.heap.size (decX s) vb vi ∧ Below w.heap.size w w'

theorem res3c {fn : Func} {p q r : Tmp} (h : fn.results = #[.cell p 191, .cell q 3, .cell r 34]) (tmps : Array Value) (w : World) (g : Nat) (x y z : Value) (pl er : Int)
    (hp : tmps.getD p undef = .pointer (some ⟨g, 0, none⟩)) (hq : tmps.getD q undef = .pointer (some ⟨g + 1, 0, none⟩)) (hr : tmps.getD r undef = .pointer (some ⟨g + 2, 0, none⟩)) (hR : Rs w g x y z pl er) :
    (results fn tmps).run Tryz.prog w = .ok (.tuple #[.agg #[x, y, z], .int .i64 pl, .int .i64 er]) w := by
  have hp' : tmps[p]?.getD undef = .pointer (some ⟨g, 0, none⟩) := by simpa using hp
  have hq' : tmps[q]?.getD undef = .pointer (some ⟨g + 1, 0, none⟩) := by simpa using hq
  have hr' : tmps[r]?.getD undef = .pointer (some ⟨g + 2, 0, none⟩) := by simpa using hr
  obtain ⟨x0, x1, x2, -⟩ := hR.item.cells
  have p0 : w.cell? ⟨g + 1, 0, none⟩ = some (.int .i64 pl) := cell_of_row _ _ _ _ _ _ hR.place
  have e0 : w.cell? ⟨g + 2, 0, none⟩ = some (.int .i64 er) := cell_of_row _ _ _ _ _ _ hR.errno
  have l0 := loadVar25 x0 x1 x2
  have l1 : (loadVar 3 ⟨g + 1, 0, none⟩).run Tryz.prog w = .ok (.int .i64 pl) w := by simp [loadVar, go_sem, p0]
  have l2 : (loadVar 34 ⟨g + 2, 0, none⟩).run Tryz.prog w = .ok (.int .i64 er) w := by simp [loadVar, go_sem, e0]
  simp [results, h, hp', hq', hr', asAddr, l0, l1, l2]

theorem Rs.made (w : World) (x y z : Value) (pl er : Int) : Rs (((w.alloc (.cells #[x, y, z] 191)).alloc (.cells #[.int .i64 pl] 3)).alloc (.cells #[.int .i64 er] 34)) w.heap.size x y z pl er := by
  refine ⟨?_, ?_, ?_⟩
  · show _ = _
    rw [heap_alloc_old _ _ (by simp; omega), heap_alloc_old _ _ (by simp)]
    exact heap_alloc_new _ _
  · rw [heap_alloc_old _ _ (by simp)]
    have := heap_alloc_new (w.alloc (.cells #[x, y, z] 191)) (.cells #[.int .i64 pl] 3)
    simpa using this
  · have := heap_alloc_new ((w.alloc (.cells #[x, y, z] 191)).alloc (.cells #[.int .i64 pl] 3)) (.cells #[.int .i64 er] 34)
    simpa using this
theorem Rs.keep {w w' : World} {g : Nat} {x y z : Value} {pl er : Int} (h : Rs w g x y z pl er) (k : Below w.heap.size w w') : Rs w' g x y z pl er := by
  have h2 : g + 2 < w.heap.size := (Array.getElem?_eq_some_iff.1 h.errno).1
  exact ⟨h.item.keep (k.block _ (by omega)), (k.block _ (by omega)).trans h.place, (k.block _ (by omega)).trans h.errno⟩
theorem Rs.facts {w : World} {g : Nat} {x y z : Value} {pl er : Int} (h : Rs w g x y z pl er) : (w.cell? ⟨g, 0, none⟩ = some x ∧ w.cell? ⟨g, 1, none⟩ = some y ∧ w.cell? ⟨g, 2, none⟩ = some z ∧ w.cell? ⟨g + 1, 0, none⟩ = some (.int .i64 pl) ∧ w.cell? ⟨g + 2, 0, none⟩ = some (.int .i64 er)) ∧
    (w.frozen? ⟨g, 0, none⟩ = false ∧ w.frozen? ⟨g, 1, none⟩ = false ∧ w.frozen? ⟨g, 2, none⟩ = false ∧ w.frozen? ⟨g + 1, 0, none⟩ = false ∧ w.frozen? ⟨g + 2, 0, none⟩ = false) := by
  obtain ⟨x0, x1, x2, xf⟩ := h.item.cells
  have fr : ∀ (k : Nat) (v : Value) (t : TypeId), w.heap[k]? = some (.cells #[v] t (0, 0)) → w.frozen? ⟨k, 0, none⟩ = false := fun k v t hk => by
    have r : w.rowIs k t 1 (fun _ => v) := ⟨_, hk, rfl, fun i hi => by
      obtain rfl : i = 0 := by omega
      rfl⟩
    exact r.frozen 0
  exact ⟨⟨x0, x1, x2, cell_of_row _ _ _ _ _ _ h.place, cell_of_row _ _ _ _ _ _ h.errno⟩, xf 0, xf 1, xf 2, fr _ _ _ h.place, fr _ _ _ h.errno⟩

/-- the results, told -/
theorem DecPost.of {s : List Nat} {w w' : World} {vb vi : Value} {x : It} {pl er : Nat} (hR : Rs w' w.heap.size (.bool x.l) vb vi pl er) (ho : Own w' w.heap.size w'.heap.size x vb vi) (hb : Below w.heap.size w w') (hx : decX s = x) (hp : decP s = pl) (he : decE s = er) (tmps : Array Value)
    (h1 : tmps.getD 2 undef = .pointer (some ⟨w.heap.size, 0, none⟩)) (h2 : tmps.getD 3 undef = .pointer (some ⟨w.heap.size + 1, 0, none⟩)) (h3 : tmps.getD 4 undef = .pointer (some ⟨w.heap.size + 2, 0, none⟩)) : ∃ v, (results Tryz.f125 tmps).run Tryz.prog w' = .ok v w' ∧ DecPost s w (.returned v) w' :=
  ⟨_, res3c rfl tmps w' w.heap.size _ _ _ _ _ h1 h2 h3 hR, vb, vi, by rw [hx, hp, he], by rw [hx]; exact ho, hb⟩

set_option maxRecDepth 100000 in
set_option maxHeartbeats 3200000 in
theorem decode_any (w : World) (a : Option Addr) (b off c : Nat) (s : List Nat) (hv : Vw w a b off s) (hc : s.length ≤ c) (hl : s.length ≤ 140737488355328) :
    Calls Tryz.prog 125 #[.slice a s.length c] w (DecPost s w) := by
  have hmf : ∀ (fn : Fn) (first cap : Array Value) (w : World), (Instr.makeFunc fn first cap).run Tryz.prog w = .ok (.func fn first cap) w := fun _ _ _ _ => rfl
  obtain ⟨n, en⟩ : ∃ n, n = s.length := ⟨_, rfl⟩
  have HN : Hid (n = s.length) := en
  by_cases hbig : 1048576 < s.length
  · have HD : Hid (dec s = .bad 0 54) := by show _ = _; unfold dec; rw [if_pos hbig]
    have i1 : (1048576 : Int) < (n : Int) := by omega
    rw [← en]
    clear hv hc en
    go_enter_defers Tryz.func125, Tryz.ntmps125
    go_wp2_with fail
    refine DecPost.of (x := .mk false [] []) (pl := 0) (er := 54) (Rs.made w _ _ _ _ _) (Own.zero _ _ _) (((below_alloc _ _).alloc (by simp) _).alloc (by simp; omega) _) (by unfold decX; rw [HD.out]) (by unfold decP; rw [HD.out]) (by unfold decE; rw [HD.out]) _ rfl rfl rfl
  · have hvp : Vp w a b off n c s := ⟨by rw [en]; exact hv, by omega, by omega, by omega, (vw_ok hv).2⟩
    have i1 : ¬ (1048576 : Int) < (n : Int) := by omega
    have HD : Hid (dec s = match rd s 80 0 n with
        | .bad p e => .bad p e
        | .ok x e => if e < n then .bad e 51 else .ok x) := by
      show _ = _
      unfold dec
      rw [if_neg hbig, en]
      rfl
    rw [← en]
    obtain ⟨W, eW⟩ : ∃ W, W = ((w.alloc (.cells #[.bool false, .slice none 0 0, .slice none 0 0] 191)).alloc (.cells #[.int .i64 0] 3)).alloc (.cells #[.int .i64 0] 34) := ⟨_, rfl⟩
    have bW : Below w.heap.size w W := by rw [eW]; exact ((below_alloc _ _).alloc (by simp) _).alloc (by simp; omega) _
    have rW : Rs W w.heap.size (.bool false) (.slice none 0 0) (.slice none 0 0) 0 0 := by rw [eW]; exact Rs.made w _ _ _ _ _
    have sW : W.heap.size = w.heap.size + 3 := by rw [eW]; simp
    have KK := (read_any 80 (by omega)).2 W a b off n c 0 s (hvp.keep bW) (by omega)
    rw [show ((80 - 80 : Nat) : Int) = 0 by decide] at KK
    have HW : Hid (W = ((w.alloc (.cells #[.bool false, .slice none 0 0, .slice none 0 0] 191)).alloc (.cells #[.int .i64 0] 3)).alloc (.cells #[.int .i64 0] 34) ∧ Below w.heap.size w W ∧ Rs W w.heap.size (.bool false) (.slice none 0 0) (.slice none 0 0) 0 0 ∧ W.heap.size = w.heap.size + 3) := ⟨eW, bW, rW, sW⟩
    have er : ∀ r w', ItemPost s 80 0 n W r w' → Below W.heap.size W w' ∧ match rd s 80 0 n with
        | .ok x z => ∃ vb vi, r = .returned (.tuple #[iv x.l vb vi, .int .i64 z]) ∧ Own w' W.heap.size w'.heap.size x vb vi
        | .bad q c => r = .panicked [flt q c] := fun r w' h => h
    clear hv hc en hbig eW bW rW sW
    cases hrd : rd s 80 0 n with
    | bad q cd =>
      rw [hrd] at er
      have HX : Hid (dec s = .bad q cd) := by
        show _ = _
        rw [HD.out, hrd]
      clear hrd
      go_enter_defers Tryz.func125, Tryz.ntmps125
      go_wp2_with fail
      rw [← HW.out.1]
      refine KK.mono ?_
      intro r w2 hr
      obtain ⟨hb2, rfl⟩ := er r w2 hr
      clear hr
      go_wp2_with fail
      refine leaves_cons (f := 131) (args := #[.pointer (some ⟨w.heap.size, 0, none⟩), .pointer (some ⟨w.heap.size + 1, 0, none⟩), .pointer (some ⟨w.heap.size + 2, 0, none⟩)]) (by simp) (by simp [go_sem]) ?_
      refine (catch_panicking w.heap.size q cd _ _ _ _ _ [] w2 (HW.out.2.2.1.keep hb2)).mono ?_
      rintro e u' w'' ⟨rfl, rfl, hR, hB⟩
      have hb3 : Below w.heap.size w w'' := (ch HW.out.2.1 hb2).trans hB
      refine DecPost.of (x := .mk false [] []) (pl := q) (er := cd) hR (Own.zero _ _ _) hb3 (by unfold decX; rw [HX.out]) (by unfold decP; rw [HX.out]) (by unfold decE; rw [HX.out]) _ rfl rfl rfl
    | ok x z =>
      rw [hrd] at er
      have HX : Hid (dec s = if z < n then .bad z 51 else .ok x) := by
        show _ = _
        rw [HD.out, hrd]
      clear hrd
      by_cases hz : z < n
      · have i2 : (z : Int) < (n : Int) := by omega
        have HX2 : Hid (dec s = .bad z 51) := by show _ = _; rw [HX.out, if_pos hz]
        have KG := fun w => giveUp_any w z 51
        go_enter_defers Tryz.func125, Tryz.ntmps125
        go_wp2_with fail
        rw [← HW.out.1]
        refine KK.mono ?_
        intro r w2 hr
        obtain ⟨hb2, vb, vi, rfl, ho⟩ := er r w2 hr
        obtain ⟨a1, n1, k1, a2, n2, k2, rfl, rfl⟩ := ho.lies.form
        have rs2 := HW.out.2.2.1.keep hb2
        obtain ⟨⟨x0, x1, x2, x3, x4⟩, f0, f1, f2, f3, f4⟩ := rs2.facts
        have HZ : Hid (Rs w2 w.heap.size (.bool false) (.slice none 0 0) (.slice none 0 0) 0 0 ∧ Below W.heap.size W w2) := ⟨rs2, hb2⟩
        clear hr rs2 hb2 ho
        go_wp2_with (go_at_call 134; refine (KG _).mono ?_; rintro e w' ⟨rfl, rfl⟩)
        have hb2 := HZ.out.2
        have t3 := set3_turn w2 w.heap.size (.bool x.l) (.slice a1 n1 k1) (.slice a2 n2 k2)
        have hsz := HW.out.2.2.2
        have hsz2 := hb2.size
        have rs3 : Rs (set3 w2 w.heap.size (.bool x.l) (.slice a1 n1 k1) (.slice a2 n2 k2)) w.heap.size (.bool x.l) (.slice a1 n1 k1) (.slice a2 n2 k2) 0 0 := ⟨HZ.out.1.item.set3, (t3.block _ (by omega) (by omega)).trans HZ.out.1.place, (t3.block _ (by omega) (by omega)).trans HZ.out.1.errno⟩
        have b3 : Below w.heap.size w (set3 w2 w.heap.size (.bool x.l) (.slice a1 n1 k1) (.slice a2 n2 k2)) := (ch HW.out.2.1 hb2).trans (t3.below (fun i q => by omega) (by omega))
        refine leaves_cons (f := 131) (args := #[.pointer (some ⟨w.heap.size, 0, none⟩), .pointer (some ⟨w.heap.size + 1, 0, none⟩), .pointer (some ⟨w.heap.size + 2, 0, none⟩)]) (by simp) (by simp [go_sem]) ?_
        refine (catch_panicking w.heap.size z 51 _ _ _ _ _ [] _ rs3).mono ?_
        rintro e u' w'' ⟨rfl, rfl, hR, hB⟩
        exact DecPost.of (x := .mk false [] []) (pl := z) (er := 51) hR (Own.zero _ _ _) (b3.trans hB) (by unfold decX; rw [HX2.out]) (by unfold decP; rw [HX2.out]) (by unfold decE; rw [HX2.out]) _ rfl rfl rfl
      · have i2 : ¬ (z : Int) < (n : Int) := by omega
        have HX2 : Hid (dec s = .ok x) := by show _ = _; rw [HX.out, if_neg hz]
        go_enter_defers Tryz.func125, Tryz.ntmps125
        go_wp2_with fail
        rw [← HW.out.1]
        refine KK.mono ?_
        intro r w2 hr
        obtain ⟨hb2, vb, vi, rfl, ho⟩ := er r w2 hr
        obtain ⟨a1, n1, k1, a2, n2, k2, rfl, rfl⟩ := ho.lies.form
        have rs2 := HW.out.2.2.1.keep hb2
        obtain ⟨⟨x0, x1, x2, x3, x4⟩, f0, f1, f2, f3, f4⟩ := rs2.facts
        have HZ : Hid (Rs w2 w.heap.size (.bool false) (.slice none 0 0) (.slice none 0 0) 0 0 ∧ Below W.heap.size W w2 ∧ Own w2 W.heap.size w2.heap.size x (.slice a1 n1 k1) (.slice a2 n2 k2)) := ⟨rs2, hb2, ho⟩
        clear hr rs2 hb2 ho
        go_wp2_with fail
        have hb2 := HZ.out.2.1
        have t3 := set3_turn w2 w.heap.size (.bool x.l) (.slice a1 n1 k1) (.slice a2 n2 k2)
        have hsz := HW.out.2.2.2
        have hsz2 := hb2.size
        have rs3 : Rs (set3 w2 w.heap.size (.bool x.l) (.slice a1 n1 k1) (.slice a2 n2 k2)) w.heap.size (.bool x.l) (.slice a1 n1 k1) (.slice a2 n2 k2) 0 0 := ⟨HZ.out.1.item.set3, (t3.block _ (by omega) (by omega)).trans HZ.out.1.place, (t3.block _ (by omega) (by omega)).trans HZ.out.1.errno⟩
        have b3 : Below w.heap.size w (set3 w2 w.heap.size (.bool x.l) (.slice a1 n1 k1) (.slice a2 n2 k2)) := (ch HW.out.2.1 hb2).trans (t3.below (fun i q => by omega) (by omega))
        have rs4 := rs3.write (x' := .bool x.l) (y' := .slice a1 n1 k1) (z' := .slice a2 n2 k2) (pl' := 0) (er' := 0)
        refine leaves_cons (f := 131) (args := #[.pointer (some ⟨w.heap.size, 0, none⟩), .pointer (some ⟨w.heap.size + 1, 0, none⟩), .pointer (some ⟨w.heap.size + 2, 0, none⟩)]) (by simp) (by simp [go_sem]) ?_
        refine (catch_idle w.heap.size _).mono ?_
        rintro e u' w'' ⟨rfl, rfl, rfl⟩
        refine DecPost.of (x := x) (pl := 0) (er := 0) rs4.1 ?_ (b3.trans rs4.2) (by unfold decX; rw [HX2.out]) (by unfold decP; rw [HX2.out]) (by unfold decE; rw [HX2.out]) _ rfl rfl rfl
        have ho : Own (((set3 (set3 w2 w.heap.size (.bool x.l) (.slice a1 n1 k1) (.slice a2 n2 k2)) w.heap.size (.bool x.l) (.slice a1 n1 k1) (.slice a2 n2 k2)).setCell ⟨w.heap.size + 1, 0, none⟩ (.int .i64 0)).setCell ⟨w.heap.size + 2, 0, none⟩ (.int .i64 0)) W.heap.size w2.heap.size x (.slice a1 n1 k1) (.slice a2 n2 k2) := HZ.out.2.2.same (fun q q1 q2 => by
          have t4 := set3_turn (set3 w2 w.heap.size (.bool x.l) (.slice a1 n1 k1) (.slice a2 n2 k2)) w.heap.size (.bool x.l) (.slice a1 n1 k1) (.slice a2 n2 k2)
          rw [Below.heap_setCell _ _ _ _ (by show q ≠ w.heap.size + 2; omega), Below.heap_setCell _ _ _ _ (by show q ≠ w.heap.size + 1; omega), t4.block q (by rw [set3_size]; omega) (by omega), t3.block q q2 (by omega)])
        exact ho.wide (by omega) (by simp)
end Go.Proofs.YtepeolbbplodfaaGreatDoor

/-
  path.Unpack of an odd form.
-/
namespace Go.Proofs.YtepeolbbplodfaaGreatDoor
open Go.RowKit

set_option maxRecDepth 100000 in
set_option maxHeartbeats 1600000 in
theorem unpack_1 (w : World) (a : Option Addr) (b off c : Nat) (s : List Nat) (hv : Vw w a b off s) (hc : s.length ≤ c) (hp : IsF s) (ho : od s = 1) :
    Calls Tryz.prog 146 #[.slice a s.length c] w fun e w' => ∃ v, e = .returned (.tuple #[v, .bool (lf s), .int .i64 0]) ∧ Ans w w' v (upL s) := by
  have K := isForm_any w a b off c s hv
  rw [decide_eq_true hp] at K
  have K2 := plen_any w a b off c s hv hp.1
  have HB : Hid (∀ i, gd s i < 256) := fun i => gd_lt (vw_ok hv).2 i
  have HI : Hid (∀ x ∈ s, x < 256) := (vw_ok hv).2
  have hz : gd s 0 < 256 := HB.out 0
  have h64 := hp.2.1
  have hl : plen s ≤ 64 := hp.2.2.2
  have h0 := hp.1
  have ep : plen s = 2 * (s.length - 1) + 1 := by unfold plen; rw [ho]
  have HV : Hid (Vw w a b off s) := hv
  obtain rfl := hv.at_ h0
  have c0 : w.cell? ⟨b, off, none⟩ = some (.int .u8 ((gd s 0 : Nat) : Int)) := hv.cell 0 h0
  have hlt := hv.lt h0
  have HLF : Hid (lf s = decide (32 ≤ gd s 0)) := rfl
  have m16 := a16 (gd s 0) hz
  have eo : gd s 0 / 16 % 2 = 1 := ho
  rw [eo] at m16
  replace m16 : bits .and .u8 ((gd s 0 : Nat) : Int) 16 = 16 := m16
  have m32 := a32 (gd s 0) hz
  have HM : Hid (bits .and .u8 ((gd s 0 : Nat) : Int) 32 = ((32 * (gd s 0 / 32 % 2) : Nat) : Int)) := m32
  have HX0 : Hid (∀ y : Int, y = ((gd s 0 : Nat) : Int) % 16 → y = ((upY s 0 : Nat) : Int)) := fun y hy => by rw [hy, upY_zero ho]; omega
  obtain ⟨p, hpe⟩ : ∃ p, p = plen s := ⟨_, rfl⟩
  have HU : Hid (od s = 1 ∧ p = plen s) := ⟨ho, hpe⟩
  rw [← hpe] at hl K2 ep
  have l1 : p ≤ 2 * (s.length - 1) + 1 := by omega
  have l2 : 2 * (s.length - 1) + 1 ≤ p := by omega
  obtain ⟨n, en⟩ : ∃ n, n = s.length := ⟨_, rfl⟩
  obtain ⟨x, hx⟩ : ∃ x, x = gd s 0 := ⟨_, rfl⟩
  have HE : Hid (n = s.length) := en
  rw [← hx] at hz h64 c0 HLF m16 HM HX0
  rw [← en] at h0 l1 l2 K K2 hc ⊢
  have HW : Hid (View w (behind (some (⟨b, off, none⟩ : Addr)) c 1) b (off + 1) (n - 1) (fun i => ((gd s (1 + i) : Nat) : Int))) := by
    refine ⟨fun h => ?_, fun i hi => ?_, fun i hi => ?_, by omega⟩
    · unfold behind
      rw [if_neg (by omega)]
      rfl
    · have := HV.out.cell (1 + i) (by have := HE.out; omega)
      rw [Nat.add_assoc]
      exact this
    · have := HB.out (1 + i)
      omega
  obtain ⟨a', ha'⟩ : ∃ a', a' = behind (some (⟨b, off, none⟩ : Addr)) c 1 := ⟨_, rfl⟩
  have j1 : ∀ u, (Instr.slice 33 (.slice (some ⟨b, off, none⟩) n c) (some (.int .i64 1)) none none).run Tryz.prog u = .ok (.slice a' (n - 1) (c - 1)) u := fun u => by rw [ha']; exact slice_from _ n c 1 (by omega) u
  rw [← ha'] at HW
  clear hv hp ho en hx m32 eo ha' ep hpe
  have hmk := run_make_row' (P := Tryz.prog) 33 5 (.int .u8 0) 1 Tryz.underlying33 Tryz.info5 rfl .i64 .i64 p (by omega) (by omega)
  obtain ⟨a2, ha2⟩ : ∃ a2, a2 = behind (some (⟨w.heap.size, 0, none⟩ : Addr)) p 1 := ⟨_, rfl⟩
  have j2 : ∀ u, (Instr.slice 33 (.slice (some ⟨w.heap.size, 0, none⟩) p p) (some (.int .i64 1)) none none).run Tryz.prog u = .ok (.slice a2 (p - 1) (p - 1)) u := fun u => by rw [ha2]; exact slice_from _ p p 1 (by omega) u
  have HA2 : Hid (1 < n → a2 = some ⟨w.heap.size, 1, none⟩) := fun h => by
    rw [ha2]
    unfold behind
    rw [if_neg (by omega)]
    rfl
  clear ha2
  have s0 : (w.alloc (.cells (madeCells #[.int .u8 0] p) 5)).cell? ⟨w.heap.size, 0, none⟩ = some (.int .u8 0) := (NewRow.made w p).row.cell (i := 0) (by omega)
  have f0 : (w.alloc (.cells (madeCells #[.int .u8 0] p) 5)).frozen? ⟨w.heap.size, 0, none⟩ = false := (NewRow.made w p).row.frozen 0
  have d0 : (w.alloc (.cells (madeCells #[.int .u8 0] p) 5)).cell? ⟨b, off, none⟩ = some (.int .u8 (x : Int)) := (World.cell?_alloc_old _ _ _ (by show b ≠ w.heap.size; omega)).trans c0
  have HK : Hid (Calls Tryz.prog 153 #[.slice (some ⟨b, off, none⟩) n c] w fun e w' => e = .returned (.bool true) ∧ w' = w) := K
  have HK2 : Hid (Calls Tryz.prog 154 #[.slice (some ⟨b, off, none⟩) n c] w fun e w' => e = .returned (.int .i64 ((p : Nat) : Int)) ∧ w' = w) := K2
  have i1 : (0 : Int) < (n : Int) := by omega
  have i1b : 0 < n := by omega
  clear K K2
  go_enter Tryz.func146, Tryz.ntmps146
  go_wp2_with fail
  refine HK.out.mono ?_
  rintro e w1 ⟨rfl, rfl⟩
  go_wp2_with fail
  refine HK2.out.mono ?_
  rintro e w2 ⟨rfl, rfl⟩
  go_wp2_with fail
  have HN : Hid (NewRow w2 (w2.alloc (.cells ((madeCells #[.int .u8 0] p).setIfInBounds 0 (.int .u8 ((x : Int) % 16))) 5)) p (upZ s 0)) := upZ_odd HU.out.1 (HX0.out _ rfl)
  clear hmk d0 s0 f0
  go_loopg [31] (n - 1) (fun g i wr => ∃ k : Nat, k ≤ n - 1 ∧ g = n - 1 - k ∧ i = .int .i64 k ∧ NewRow w2 wr p (upZ s k))
  case atStart => exact ⟨0, Nat.zero_le _, rfl, rfl, HN.out⟩
  case round =>
    obtain ⟨k, hk, rfl, rfl, hR⟩ := hrel
    have HR : Hid (NewRow w2 wr p (upZ s k)) := hR
    clear HN
    by_cases hkn : k < n - 1
    · obtain rfl := HW.out.at_ (by omega)
      obtain rfl := HA2.out (by omega)
      have d1 : wr.cell? ⟨b, off + 1 + k, none⟩ = some (.int .u8 ((gd s (1 + k) : Nat) : Int)) := (hR.below.cell (p := ⟨b, off + 1 + k, none⟩) hlt).trans (HW.out.cell k hkn)
      have z1 : gd s (1 + k) < 256 := HB.out _
      have s1 := hR.row.cell (i := 1 + 2 * k) (by omega)
      have f1 := hR.row.frozen (1 + 2 * k)
      have s2 := hR.row.cell (i := 1 + (2 * k + 1)) (by omega)
      have f2 := hR.row.frozen (1 + (2 * k + 1))
      have HY : Hid (∀ y z : Int, y = ((gd s (1 + k) : Nat) : Int) / 16 → z = ((gd s (1 + k) : Nat) : Int) % 16 → NewRow w2 ((wr.setCell ⟨w2.heap.size, 1 + 2 * k, none⟩ (.int .u8 y)).setCell ⟨w2.heap.size, 1 + (2 * k + 1), none⟩ (.int .u8 z)) p (upZ s (k + 1))) := fun y z hy hz => upZ_step hR HU.out.1 (by omega) (by omega) (by rw [hy]; omega) (by rw [hz]; omega)
      obtain ⟨y, hy⟩ : ∃ y, y = gd s (1 + k) := ⟨_, rfl⟩
      rw [← hy] at d1 z1 HY
      obtain ⟨t1, ht1⟩ : ∃ t, t = upZ s k (1 + 2 * k) := ⟨_, rfl⟩
      obtain ⟨t2, ht2⟩ : ∃ t, t = upZ s k (1 + (2 * k + 1)) := ⟨_, rfl⟩
      rw [← ht1] at s1
      rw [← ht2] at s2
      clear hy ht1 ht2 hR
      have y0 : (0 : Int) ≤ (y : Int) := by omega
      have y1 : (y : Int) ≤ 255 := by omega
      have k1 : (k : Int) < ((n - 1 : Nat) : Int) := by omega
      have k2 : 2 * (k : Int) < ((p - 1 : Nat) : Int) := by omega
      have k3 : 2 * (k : Int) + 1 < ((p - 1 : Nat) : Int) := by omega
      go_wp2_with fail
      go_roundg (n - 1 - (k + 1))
      case measure => omega
      case rel => exact ⟨k + 1, by omega, rfl, by go_num, HY.out _ _ rfl rfl⟩
    · have : k = n - 1 := by omega
      subst this
      have i5 : ¬ ((n - 1 : Nat) : Int) < ((n - 1 : Nat) : Int) := by omega
      have d2 : wr.cell? ⟨b, off, none⟩ = some (.int .u8 (x : Int)) := (hR.below.cell (p := ⟨b, off, none⟩) hlt).trans c0
      have r : NewRow w2 wr p (upY s) := hR.congr (fun i hi => by unfold upZ; rw [HU.out.1, if_pos (by omega)])
      have HN : Hid (NewRow w2 wr p (upY s)) := r
      clear r hR
      by_cases q : 32 ≤ x
      · have m32 : bits .and .u8 (x : Int) 32 = 32 := by rw [HM.out, show x / 32 % 2 = 1 by omega]; rfl
        have el : lf s = true := by rw [HLF.out]; exact decide_eq_true q
        have HEL : Hid (lf s = true) := el
        clear el q
        go_wp2_with fail
        go_quiet (fail)
        go_wp2_with fail
        go_ret3
        refine ⟨_, by rw [HEL.out]; rfl, ?_⟩
        unfold upL
        rw [← HU.out.2]
        exact (HN.out.drewN _).ans (fun i _ => by have := nib_le HI.out (i + (2 - od s)); unfold upY; omega) (by omega)
      · have m32 : bits .and .u8 (x : Int) 32 = 0 := by rw [HM.out, show x / 32 % 2 = 0 by omega]; rfl
        have el : lf s = false := by rw [HLF.out]; exact decide_eq_false q
        have HEL : Hid (lf s = false) := el
        clear el q
        go_wp2_with fail
        go_quiet (fail)
        go_wp2_with fail
        go_ret3
        refine ⟨_, by rw [HEL.out]; rfl, ?_⟩
        unfold upL
        rw [← HU.out.2]
        exact (HN.out.drewN _).ans (fun i _ => by have := nib_le HI.out (i + (2 - od s)); unfold upY; omega) (by omega)
end Go.Proofs.YtepeolbbplodfaaGreatDoor

/-
  path.Unpack.
-/
namespace Go.Proofs.YtepeolbbplodfaaGreatDoor
open Go.RowKit

set_option maxRecDepth 100000 in
set_option maxHeartbeats 400000 in
theorem unpack_no (w : World) (a : Option Addr) (b off c : Nat) (s : List Nat) (hv : Vw w a b off s) (hp : ¬ IsF s) :
    Calls Tryz.prog 146 #[.slice a s.length c] w fun e w' => e = .returned (.tuple #[.slice none 0 0, .bool false, .int .i64 60]) ∧ w' = w := by
  have K := isForm_any w a b off c s hv
  rw [decide_eq_false hp] at K
  have HK : Hid (Calls Tryz.prog 153 #[.slice a s.length c] w fun e w' => e = .returned (.bool false) ∧ w' = w) := K
  have hn := hv.len
  clear K hv hp
  generalize s.length = n at *
  go_enter Tryz.func146, Tryz.ntmps146
  go_wp2_with fail
  refine HK.out.mono ?_
  rintro e w1 ⟨rfl, rfl⟩
  go_wp2_with fail
  go_ret3
  exact ⟨rfl, rfl⟩
/-- P6.3 -/
theorem unpack_any (w : World) (a : Option Addr) (b off c : Nat) (s : List Nat) (hv : Vw w a b off s) (hc : s.length ≤ c) :
    Calls Tryz.prog 146 #[.slice a s.length c] w fun e w' => ∃ v, e = .returned (.tuple #[v, .bool (upI s), .int .i64 ((upE s : Nat) : Int)]) ∧ Ans w w' v (upR s) := by
  by_cases hp : IsF s
  · have e1 : upE s = 0 := if_pos hp
    have e2 : upR s = upL s := if_pos hp
    have e3 : upI s = lf s := if_pos hp
    rw [e1, e2, e3]
    have := od_lt s
    by_cases ho : od s = 0
    · exact unpack_0 w a b off c s hv hc hp ho
    · exact unpack_1 w a b off c s hv hc hp (by omega)
  · have e1 : upE s = 60 := if_neg hp
    have e2 : upR s = [] := if_neg hp
    have e3 : upI s = false := if_neg hp
    rw [e1, e2, e3]
    refine (unpack_no w a b off c s hv hp).mono ?_
    rintro e w' ⟨rfl, rfl⟩
    exact ⟨_, rfl, ans_nil (Below.refl _ _)⟩
end Go.Proofs.YtepeolbbplodfaaGreatDoor

/-
  cairnref01.Nibbles.
-/
namespace Go.Proofs.YtepeolbbplodfaaGreatDoor
open Go.RowKit

theorem u8_quoJ (x : Int) (h0 : 0 ≤ x) (h1 : x ≤ 255) : IntKind.u8.wrap (x.tdiv 16) = x / 16 := by
  rw [Int.tdiv_eq_ediv_of_nonneg h0]
  simp [IntKind.wrap, IntKind.signed, IntKind.bits]
  omega
theorem u8_remJ (x : Int) (h0 : 0 ≤ x) (_ : x ≤ 255) : IntKind.u8.wrap (x.tmod 16) = x % 16 := by
  rw [Int.tmod_eq_emod_of_nonneg h0]
  simp [IntKind.wrap, IntKind.signed, IntKind.bits]
  omega
/-- the nibbles of bytes -/
def nibJ (Z : Nat → Int) (i : Nat) : Int := if i % 2 = 0 then Z (i / 2) / 16 else Z (i / 2) % 16
set_option maxRecDepth 100000 in
set_option maxHeartbeats 1600000 in
theorem rnibbles_own (w : World) (a : Option Addr) (b off n c : Nat) (Z : Nat → Int) (h : View w a b off n Z) (hn : n ≤ 1048576) :
    Calls Tryz.prog 49 #[.slice a n c] w fun e w' => ∃ v, e = .returned v ∧ w'.ownsRow w.heap.size 5 1 v (2 * n) (vals (nibJ Z) (2 * n)) ∧ Below w.heap.size w w' := by
  obtain ⟨i0, hi0, hz0, hz1, hz2⟩ := info_parts Tryz.info5
  have HV : Hid (View w a b off n Z) := h
  clear h
  go_enter Tryz.func49, Tryz.ntmps49
  go_wp2
  go_loopg [3, 4] n (fun g v i wr => ∃ k : Nat, k ≤ n ∧ g = n - k ∧ i = .int .i64 k ∧ wr.ownsRow w.heap.size 5 1 v (2 * k) (vals (nibJ Z) (2 * k)) ∧ Below w.heap.size w wr)
  case atStart => exact ⟨0, Nat.zero_le _, rfl, rfl, World.ownsRow_nil _ _ _ _, Below.refl _ _⟩
  case round =>
    obtain ⟨k, hk, rfl, rfl, hown, hbel⟩ := hrel
    have hsz := hbel.size
    by_cases hkn : k < n
    · obtain rfl := HV.out.at_ (by omega)
      have hlt := HV.out.lt (by omega)
      have c1 : wr.cell? ⟨b, off + k, none⟩ = some (.int .u8 (Z k)) := (hbel.cell (p := ⟨b, off + k, none⟩) hlt).trans (HV.out.cell k hkn)
      obtain ⟨b1, b2⟩ := HV.out.bd k hkn
      have i1 : (k : Int) < (n : Int) := by omega
      have i0' : (0 : Int) ≤ (k : Int) := by omega
      have q1 := u8_quoJ (Z k) b1 b2
      have q2 := u8_remJ (Z k) b1 b2
      have q5 : (Z k).tmod 16 = Z k % 16 := Int.tmod_eq_emod_of_nonneg b1
      have e1 : nibJ Z (2 * k) = Z k / 16 := by unfold nibJ; rw [if_pos (by omega), show 2 * k / 2 = k by omega]
      have e2 : nibJ Z (2 * k + 1) = Z k % 16 := by unfold nibJ; rw [if_neg (by omega), show (2 * k + 1) / 2 = k by omega]
      have hv := vals_two (nibJ Z) (2 * k)
      rw [e1, e2] at hv
      have HVT : Hid (vals (nibJ Z) (2 * k) ++ [.int .u8 (Z k / 16), .int .u8 (Z k % 16)] = vals (nibJ Z) (2 * k + 2)) := hv
      clear hv e1 e2
      have hne : ∀ v, wr.ownsRow w.heap.size 5 1 v (2 * k) (vals (nibJ Z) (2 * k)) → v.ownBlock ≠ some b := fun v ho e => by have := (ho.lt b e).1; omega
      have ag := hne _ hown
      clear hne
      go_wp2
      go_region_held3 (fun w' => w'.cell? ⟨b, off + k, none⟩ = some (.int .u8 (Z k)))
        (first
          | go_keep
          | (rw [hgrow.cell_far _ (by simp; omega) (Ne.symm ag), World.cell?_drew, World.cell?_alloc_old _ _ _ (by show b ≠ wr.heap.size; omega)]; exact c1))
        ((refine step_append_lies _ (by rfl) _ _ _ (by rfl) w.heap.size 5 i0 _ 1 1 Tryz.underlying33 hi0 hz0 hz1 hz2 rfl (by omega) _ (2 * k) _ (by rfl) ((hown.alloc _).drew) ⟨wr.heap.size, 0, none⟩ 2 2 [.int .u8 (Z k / 16), .int .u8 (Z k % 16)] (by rfl) (by rfl) (World.news_of_block (cs := #[.int .u8 (Z k / 16), .int .u8 (Z k % 16)]) (t := 5) (fr := (0, 0)) (heap_alloc_new wr _)) (by simp [Value.oneCell']) (by omega) (by unfold maxLen; omega) (by omega) (by simp; omega) (wr.heap.size + 1) (by simp) ?_; intro gg cap w1 hown1 hgrow hat hlt1))
      have hbel1 : Below w.heap.size w w1 := ((hbel.alloc hsz _).drew).grown hgrow (by simp; omega) (fun j hj => (hown.lt j hj).1)
      rw [HVT.out] at hown1
      clear hgrow hat hlt1 hown
      go_wp2
      go_roundg (n - (k + 1))
      case measure => omega
      case rel => exact ⟨k + 1, by omega, rfl, by go_num, by rw [show 2 * (k + 1) = 2 * k + 2 by omega]; exact hown1, hbel1⟩
    · have : k = n := by omega
      subst this
      go_wp2
      go_ret
      exact ⟨_, rfl, hown, hbel⟩

theorem rnib_any {w : World} {v : Value} {s : List Nat} (h : Vb w v s) (hn : s.length ≤ 1048576) :
    Calls Tryz.prog 49 #[v] w fun e w' => ∃ u, e = .returned u ∧ Ans w w' u (lst (2 * s.length) (nib s)) := by
  obtain ⟨a, b, off, c, rfl, hv, hc, _⟩ := h
  refine (rnibbles_own w a b off s.length c _ hv hn).mono ?_
  rintro e w' ⟨u, rfl, ho, hb⟩
  refine ⟨u, rfl, ?_, fun x hx => ?_, by rw [lst_len]; omega, hb⟩
  · rw [lst_len, ← vals_bv, lst_len]
    rw [vals_congr (Z := fun i => ((gd (lst (2 * s.length) (nib s)) i : Nat) : Int)) (fun i hi => ?_)] at ho
    · exact ho
    · rw [lst_gd hi]
      show (if i % 2 = 0 then ((gd s (i / 2) : Nat) : Int) / 16 else ((gd s (i / 2) : Nat) : Int) % 16) = _
      unfold nib
      split <;> omega
  · unfold lst at hx
    obtain ⟨i, -, rfl⟩ := List.mem_map.1 hx
    have := nib_le (vw_ok hv).2 i
    omega
end Go.Proofs.YtepeolbbplodfaaGreatDoor

/-
  octet: Nibbles, Common.
-/
namespace Go.Proofs.YtepeolbbplodfaaGreatDoor
open Go.RowKit

set_option maxHeartbeats 400000 in
theorem common_any (w : World) (a a' : Option Addr) (b off n c b' off' n' c' : Nat) (Z Y : Nat → Int) (h : View w a b off n Z) (h' : View w a' b' off' n' Y) :
    Calls Tryz.prog 80 #[.slice a n c, .slice a' n' c'] w fun e w' => e = .returned (.int .i64 (com Z Y (min n n'))) ∧ ∃ q, w' = w.drewN q := by
  have hn := h.len
  have hn' := h'.len
  obtain ⟨M, hM⟩ : ∃ M, M = min n n' := ⟨_, rfl⟩
  rw [← hM]
  rcases Nat.lt_or_ge n' n with hlt | hlt
  · obtain rfl : M = n' := by omega
    clear hM
    go_enter Tryz.func80, Tryz.ntmps80
    go_wp2
    go_loopg [13] M (fun g i wr => ∃ k : Nat, k ≤ M ∧ g = M - k ∧ i = .int .i64 k ∧ (∀ i, i < k → Z i = Y i) ∧ ∃ q, wr = w.drewN q)
    case atStart => exact ⟨0, Nat.zero_le _, rfl, rfl, fun i hi => absurd hi (by omega), 0, rfl⟩
    case round =>
      obtain ⟨k, hk, rfl, rfl, hs, q, rfl⟩ := hrel
      have HS : Hid (∀ i, i < k → Z i = Y i) := hs
      clear hs
      by_cases hkM : k < M
      · obtain rfl := h.at_ (by omega)
        obtain rfl := h'.at_ (by omega)
        have c1 := h.cell k (by omega)
        have c2 := h'.cell k (by omega)
        have i1 : (k : Int) < (n : Int) := by omega
        have i2 : (k : Int) < (M : Int) := by omega
        clear h h'
        by_cases e : Z k = Y k
        · have e' : (Z k != Y k) = false := by simpa using e
          have HE : Hid (Z k = Y k) := e
          clear e
          go_wp2
          go_quiet (fail)
          go_wp2
          go_roundg (M - (k + 1))
          case measure => omega
          case rel => exact ⟨k + 1, by omega, rfl, by go_num, fun i hi => by by_cases ee : i = k; (subst ee; exact HE.out); exact HS.out i (by omega), _, rfl⟩
        · have e' : (Z k != Y k) = true := by simpa using e
          go_wp2
          go_quiet (fail)
          go_wp2
          go_ret
          exact ⟨ret_int (by rw [com_stop Z Y M k hkM HS.out e]), _, World.drewN_drewN _ _ _⟩
      · go_wp2
        go_ret
        have : k = M := by omega
        subst this
        exact ⟨ret_int (by rw [com_all Z Y k HS.out]), _, rfl⟩
  · obtain rfl : M = n := by omega
    clear hM
    go_enter Tryz.func80, Tryz.ntmps80
    go_wp2
    go_loopg [13] M (fun g i wr => ∃ k : Nat, k ≤ M ∧ g = M - k ∧ i = .int .i64 k ∧ (∀ i, i < k → Z i = Y i) ∧ ∃ q, wr = w.drewN q)
    case atStart => exact ⟨0, Nat.zero_le _, rfl, rfl, fun i hi => absurd hi (by omega), 0, rfl⟩
    case round =>
      obtain ⟨k, hk, rfl, rfl, hs, q, rfl⟩ := hrel
      have HS : Hid (∀ i, i < k → Z i = Y i) := hs
      clear hs
      by_cases hkM : k < M
      · obtain rfl := h.at_ (by omega)
        obtain rfl := h'.at_ (by omega)
        have c1 := h.cell k (by omega)
        have c2 := h'.cell k (by omega)
        have i1 : (k : Int) < (n' : Int) := by omega
        have i2 : (k : Int) < (M : Int) := by omega
        clear h h'
        by_cases e : Z k = Y k
        · have e' : (Z k != Y k) = false := by simpa using e
          have HE : Hid (Z k = Y k) := e
          clear e
          go_wp2
          go_quiet (fail)
          go_wp2
          go_roundg (M - (k + 1))
          case measure => omega
          case rel => exact ⟨k + 1, by omega, rfl, by go_num, fun i hi => by by_cases ee : i = k; (subst ee; exact HE.out); exact HS.out i (by omega), _, rfl⟩
        · have e' : (Z k != Y k) = true := by simpa using e
          go_wp2
          go_quiet (fail)
          go_wp2
          go_ret
          exact ⟨ret_int (by rw [com_stop Z Y M k hkM HS.out e]), _, World.drewN_drewN _ _ _⟩
      · go_wp2
        go_ret
        have : k = M := by omega
        subst this
        exact ⟨ret_int (by rw [com_all Z Y k HS.out]), _, rfl⟩
/-- a new row of n bytes, the first block behind what was there -/
structure NewI (w w' : World) (n : Nat) (Y : Nat → Int) : Prop where
  row : w'.rowIs w.heap.size 5 n (fun i => .int .u8 (Y i))
  below : Below w.heap.size w w'
  size : w'.heap.size = w.heap.size + 1
theorem NewI.made (w : World) (n : Nat) : NewI w (w.alloc (.cells (madeCells #[.int .u8 0] n) 5)) n (fun _ => 0) :=
  ⟨World.rowIs_made w _ n 5, (Below.refl _ _).alloc (Nat.le_refl _) _, by simp⟩
theorem NewI.set {w w' : World} {n : Nat} {Y : Nat → Int} (h : NewI w w' n Y) (i : Nat) (v : Int) : NewI w (w'.setCell ⟨w.heap.size, i, none⟩ (.int .u8 v)) n (fun j => if j = i then v else Y j) :=
  ⟨(h.row.set i _).congr (fun j _ => by split <;> rfl), h.below.setCell (Nat.le_refl _) _, by simp [h.size]⟩
theorem NewI.drewN {w w' : World} {n : Nat} {Y : Nat → Int} (h : NewI w w' n Y) (q : Nat) : NewI w (w'.drewN q) n Y :=
  ⟨h.row.of_block rfl, below_drewN h.below q, h.size⟩
theorem NewI.congr {w w' : World} {n : Nat} {Y X : Nat → Int} (h : NewI w w' n Y) (e : ∀ i, i < n → Y i = X i) : NewI w w' n X :=
  ⟨h.row.congr (fun i hi => by rw [e i hi]), h.below, h.size⟩
theorem nib_step {w wr : World} {N k : Nat} {Z : Nat → Int} (hR : NewI w wr N (fun i => if i < 2 * k then nibJ Z i else 0)) (_ : 0 ≤ Z k ∧ Z k ≤ 255) :
    NewI w ((wr.setCell ⟨w.heap.size, 2 * k, none⟩ (.int .u8 (Z k / 16))).setCell ⟨w.heap.size, 2 * k + 1, none⟩ (.int .u8 (Z k % 16))) N (fun i => if i < 2 * (k + 1) then nibJ Z i else 0) := by
  refine ((hR.set (2 * k) (Z k / 16)).set (2 * k + 1) (Z k % 16)).congr (fun i _ => ?_)
  by_cases e1 : i = 2 * k + 1
  · subst e1
    rw [if_pos rfl, if_pos (by omega)]
    unfold nibJ
    rw [if_neg (by omega), show (2 * k + 1) / 2 = k by omega]
  · rw [if_neg e1]
    by_cases e2 : i = 2 * k
    · subst e2
      rw [if_pos rfl, if_pos (by omega)]
      unfold nibJ
      rw [if_pos (by omega), show (2 * k) / 2 = k by omega]
    · rw [if_neg e2]
      by_cases e3 : i < 2 * k
      · rw [if_pos e3, if_pos (by omega)]
      · rw [if_neg e3, if_neg (by omega)]

set_option maxHeartbeats 400000 in
theorem nibbles_any (w : World) (a : Option Addr) (b off n c : Nat) (Z : Nat → Int) (h : View w a b off n Z) (hn : n ≤ 140737488355328) :
    Calls Tryz.prog 54 #[.slice a n c] w fun e w' => e = .returned (.slice (some ⟨w.heap.size, 0, none⟩) (2 * n) (2 * n)) ∧ NewI w w' (2 * n) (nibJ Z) := by
  have hmk := run_make_row' (P := Tryz.prog) 33 5 (.int .u8 0) 1 Tryz.underlying33 Tryz.info5 rfl .i64 .i64 (2 * n) (by omega) (by omega)
  rw [show ((2 * n : Nat) : Int) = 2 * (n : Int) by omega] at hmk
  go_enter Tryz.func54, Tryz.ntmps54
  go_wp2
  clear hmk
  go_loopg [12] n (fun g i wr => ∃ k : Nat, k ≤ n ∧ g = n - k ∧ i = .int .i64 k ∧ NewI w wr (2 * n) (fun i => if i < 2 * k then nibJ Z i else 0))
  case atStart => exact ⟨0, Nat.zero_le _, rfl, rfl, (NewI.made w _).congr (fun i _ => by simp)⟩
  case round =>
    obtain ⟨k, hk, rfl, rfl, hR⟩ := hrel
    by_cases hkn : k < n
    · obtain rfl := h.at_ (by omega)
      have hb := h.lt (by omega)
      have c1 : wr.cell? ⟨b, off + k, none⟩ = some (.int .u8 (Z k)) := (hR.below.cell (p := ⟨b, off + k, none⟩) hb).trans (h.cell k hkn)
      have bd := h.bd k hkn
      have s1 := hR.row.cell (i := 2 * k) (by omega)
      have s2 := hR.row.cell (i := 2 * k + 1) (by omega)
      have f1 := hR.row.frozen (2 * k)
      have f2 := hR.row.frozen (2 * k + 1)
      have R := nib_step hR bd
      go_wp2
      go_roundg (n - (k + 1))
      case measure => omega
      case rel => exact ⟨k + 1, by omega, rfl, by go_num, R⟩
    · have : k = n := by omega
      subst this
      go_wp2
      go_ret
      exact ⟨rfl, hR.congr (fun i hi => by rw [if_pos hi])⟩
theorem onib_any {w : World} {v : Value} {s : List Nat} (h : Vb w v s) (hn : s.length ≤ 1048576) :
    Calls Tryz.prog 54 #[v] w fun e w' => ∃ u, e = .returned u ∧ Ans w w' u (lst (2 * s.length) (nib s)) := by
  obtain ⟨a, b, off, c, rfl, hv, hc, _⟩ := h
  refine (nibbles_any w a b off s.length c _ hv (by omega)).mono ?_
  rintro e w' ⟨rfl, hR⟩
  refine ⟨_, rfl, ?_⟩
  refine NewRow.ans (w := w) (w' := w') (n := 2 * s.length) (Y := nib s) ⟨hR.row.congr (fun i hi => ?_), hR.below, hR.size⟩ (fun i _ => by have := nib_le (vw_ok hv).2 i; omega) (by omega)
  show Value.int .u8 (if i % 2 = 0 then ((gd s (i / 2) : Nat) : Int) / 16 else ((gd s (i / 2) : Nat) : Int) % 16) = .int .u8 ((nib s i : Nat) : Int)
  unfold nib
  congr 1
  split <;> omega
end Go.Proofs.YtepeolbbplodfaaGreatDoor
