/-
  cairnlaw05.smudged.
-/
import Derived.Test.YtlpmcdnhnhgmpaaSmg
namespace Go.Proofs.Ytlpmcdnhnhgmpaa
open Go.RowKit

set_option maxRecDepth 100000 in
set_option maxHeartbeats 6400000 in
theorem smudged_any (w : World) (lo hi : Nat) (xs : List It) (a : Option Addr) (c blk off : Nat) (ys : List (Bool × Value × Value)) (s t : Nat → Nat) (hC : Ch w lo hi xs a blk off ys s t) (hhi : hi ≤ w.heap.size) (hn : nodesL xs ≤ 4194304) :
    Calls Try.prog 17 #[.slice a xs.length c] w fun e w' => e = .returned (.bool true) ∧ Turn (fun g => ∃ j, j < xs.length ∧ s j ≤ g ∧ g < t j) w w' := by
  obtain ⟨nx, enx⟩ : ∃ n, n = xs.length := ⟨_, rfl⟩
  have HN : Hid (nx = xs.length ∧ nodesL xs ≤ 4194304) := ⟨enx, hn⟩
  have hn56 := hC.hn
  rw [← enx] at hn56 ⊢
  have HC : Hid (Ch w lo hi xs a blk off ys s t) := hC
  have HHI : Hid (hi ≤ w.heap.size) := hhi
  clear hhi hn hC enx
  go_enter Try.func17, Try.ntmps17
  go_wp2_with fail
  go_loopg [3, 17] nx (fun gg u k wr => ∃ (i : Nat) (Us : List Value), i ≤ nx ∧ gg = nx - i ∧ k = .int .i64 i ∧ Gr w wr w.heap.size lo hi xs s u [] Us 0 i ∧ ∀ v ∈ Us, ∀ g, v.ownBlock = some g → ∃ j, j < xs.length ∧ s j ≤ g ∧ g < t j)
  case atStart => exact ⟨0, [], Nat.zero_le _, rfl, rfl, ⟨⟨rfl, Or.inl ⟨rfl, rfl⟩⟩, Below.refl _ _, Gt.nil _ _ _, (fun v hv => by cases hv), by rw [List.take_zero, nodesL_nil]; rfl, Nat.le_refl _⟩, (fun v hv => by cases hv)⟩
  case round =>
    obtain ⟨i, Us, hi', rfl, rfl, hG, hiv⟩ := hrel
    have HIV : Hid (∀ v ∈ Us, ∀ g, v.ownBlock = some g → ∃ j, j < xs.length ∧ s j ≤ g ∧ g < t j) := hiv
    clear hiv
    have HG : Hid (Gr w wr w.heap.size lo hi xs s u3 [] Us 0 i) := hG
    by_cases hin : i < nx
    · have i1 : (i : Int) < (nx : Int) := by omega
      obtain ⟨rfl, x, a1, n1, k1, a2, n2, k2, hx, hxm, d0, d1, d2, hO⟩ := HC.out.nth hG.below HHI.out (i := i) (by have := HN.out.1; omega)
      have h3 := HC.out.h3 i (by have := HN.out.1; omega)
      have K := gather_any w.heap.size x (wr.alloc (.cells #[.bool x.l, .slice a1 n1 k1, .slice a2 n2 k2] 25)) (s i) (t i) _ _ u3 ([] ++ Us) (hO.same (fun q q1 q2 => heap_alloc_old _ _ (by have := HHI.out; have := hG.big; omega))) (by have := HHI.out; omega) (by have := hG.big; simp; omega) (hG.own.alloc _) (by
        rw [List.length_append, hG.cnt]
        have q1 := nodesL_take_le xs (i + 1)
        rw [nodesL_take hx] at q1
        have := HN.out.2
        simp
        omega)
      obtain ⟨ar, cr, er⟩ := own_slice hG.own
      obtain ⟨nr, enr⟩ : ∃ nr, nr = ([] ++ Us).length := ⟨_, rfl⟩
      rw [← enr] at er
      subst er
      have HX : Hid (xs[i]? = some x) := hx
      clear hG hx hxm hO h3 enr
      go_wp2_with (go_at_call 35; refine K.mono ?_; rintro e w2 ⟨v2, Us2, rfl, own2, gt2, cnt2, b2⟩; have HY : Hid (Gr w w2 w.heap.size lo hi xs s v2 [] (Us ++ Us2) 0 (i + 1) ∧ ∀ v ∈ Us ++ Us2, ∀ g, v.ownBlock = some g → ∃ j, j < xs.length ∧ s j ≤ g ∧ g < t j) := ⟨HG.out.next HC.out HHI.out HX.out own2 gt2 cnt2 b2, (fun v hv g hg => (List.mem_append.1 hv).elim (fun q => HIV.out v q g hg) (fun q => ⟨i, (List.getElem?_eq_some_iff.1 HX.out).1, gt2.blk v q g hg⟩))⟩; clear own2 gt2 cnt2 b2)
      go_roundg (nx - (i + 1))
      case measure => omega
      case rel => exact ⟨i + 1, _, hin, rfl, by go_num, HY.out.1, HY.out.2⟩
    · have i1 : ¬ (i : Int) < (nx : Int) := by omega
      obtain ⟨W0, eW0⟩ : ∃ W0, W0 = wr := ⟨_, rfl⟩
      subst eW0
      have own : W0.ownsRow w.heap.size 22 1 u3 Us.length Us := by simpa using hG.own
      have gt : Gt W0 lo hi Us := hG.gt.same (fun g hg => hG.below.block g (by have := HHI.out; omega))
      obtain ⟨al, cl, ev⟩ := own_slice own
      subst ev
      have hcnt : Us.length ≤ 4194304 := by
        have q1 := hG.cnt
        have q2 := nodesL_take_le xs i
        have := HN.out.2
        omega
      -- what the lists hold
      have hM : ∀ r : Nat, ∃ q : List Nat, ∀ u, Us[r]? = some u → Str W0 Any u q ∧ q.length ≤ 1048576 := fun r => by
        cases e : Us[r]? with
        | none => exact ⟨[], fun u hu => by cases hu⟩
        | some u =>
          obtain ⟨q, hq⟩ := gt.str u (List.mem_of_getElem? e)
          exact ⟨q, fun u' hu' => by have := Option.some.inj hu'; subst this; exact hq⟩
      obtain ⟨M0, hM0⟩ := Classical.axiomOfChoice hM
      obtain ⟨N, eN⟩ : ∃ N : Nat → Nat, N = fun r => (M0 r).length := ⟨_, rfl⟩
      have HL0 : Hid (Lots W0 Us N M0) := fun r u hu => ⟨(hM0 r u hu).1, by rw [eN]⟩
      have HB : Hid (∀ r, r < Us.length → N r ≤ 1048576) := fun r hr => by rw [eN]; exact (hM0 r _ (List.getElem?_eq_getElem hr)).2
      have HS : Hid (Us.Pairwise Sep) := gt.sep
      have HLB : Hid (0 < Us.length → ∃ lb, al = some ⟨lb, 0, none⟩ ∧ ∀ v, Turn (Blk Us) W0 v → ∀ r u, Us[r]? = some u → v.cell? ⟨lb, r, none⟩ = some u) := fun h0 => by
        obtain ⟨lb, cap, e, _, hlt⟩ := own.form h0
        injection e with e1 _ e3
        refine ⟨lb, e1, fun v hv r u hu => ?_⟩
        obtain ⟨cur, hc⟩ := own_block own (g := lb) (by rw [e1]; rfl)
        have c0 := own.cells (g := lb) (by rw [e1]; rfl) r u hu
        rw [add_flat] at c0
        refine (hv.cell (q := ⟨lb, r, none⟩) hlt (fun z => ?_)).trans c0
        obtain ⟨u', hu', hg⟩ := z
        obtain ⟨q, hq, _⟩ := gt.str u' hu'
        exact hq.ne hc (by decide) hg
      have HWB0 : Hid (∀ i, Blk Us i → i < W0.heap.size) := fun i q => by
        obtain ⟨u, hu, hg⟩ := q
        obtain ⟨q, hq, _⟩ := gt.str u hu
        exact (hq.own.lt i hg).2
      have HEND : Hid (∀ wz, Turn (Blk Us) W0 wz → Turn (fun g => ∃ j, j < xs.length ∧ s j ≤ g ∧ g < t j) w wz) := fun wz tz => (Turn.of_below hG.below).trans tz (fun i z => by
        obtain ⟨u, hu, hg⟩ := z
        exact Or.inl (HIV.out u hu i hg))
      obtain ⟨n, en⟩ : ∃ n, n = Us.length := ⟨_, rfl⟩
      have HE : Hid (n = Us.length) := en
      rw [← en] at HB HLB hcnt ⊢
      clear hG HG own gt hM hM0 eN en HC
      go_wp2_with fail
      go_loopg [27] n (fun gg ii wr => ∃ (k : Nat) (M : Nat → List Nat), k ≤ n ∧ gg = n - k ∧ ii = .int .i64 k ∧ Turn (Blk Us) W0 wr ∧ Lots wr Us N M ∧ ∀ r, r < k → M r = mks r (N r))
      case atStart => exact ⟨0, M0, Nat.zero_le _, rfl, rfl, Turn.refl _ _, HL0.out, fun r hr => by omega⟩
      case round =>
        obtain ⟨k, M, hk, rfl, rfl, ht, hL, hM⟩ := hrel
        clear HL0
        by_cases hkn : k < n
        · have i2 : (k : Int) < (n : Int) := by omega
          obtain ⟨lb, rfl, hcell⟩ := HLB.out (by omega)
          have HCL : Hid (∀ v, Turn (Blk Us) W0 v → ∀ r u, Us[r]? = some u → v.cell? ⟨lb, r, none⟩ = some u) := hcell
          obtain ⟨u, eu⟩ : ∃ u, Us[k]? = some u := ⟨_, List.getElem?_eq_getElem (by have := HE.out; omega)⟩
          obtain ⟨au, cu, eu2⟩ : ∃ a c, u = .slice a (N k) c := by
            have := (hL k u eu).1.own
            rw [(hL k u eu).2] at this
            exact own_slice this
          subst eu2
          have HU : Hid (Us[k]? = some (.slice au (N k) cu)) := eu
          have n0 := HB.out k hkn
          have g0 := hcell wr ht k _ eu
          have H1 : Hid (Turn (Blk Us) W0 wr ∧ Lots wr Us N M ∧ ∀ r, r < k → M r = mks r (N r)) := ⟨ht, hL, hM⟩
          clear hcell eu ht hL hM
          go_wp2_with fail
          go_loopg [35] (N k) (fun gg jj wq => ∃ (j : Nat) (M' : Nat → List Nat), j ≤ N k ∧ gg = N k - j ∧ jj = .int .i64 j ∧ Turn (Blk Us) W0 wq ∧ Lots wq Us N M' ∧ (∀ r, r < k → M' r = mks r (N r)) ∧ ∀ i, i < j → gd (M' k) i = mrk k i)
          case atStart => exact ⟨0, M, Nat.zero_le _, rfl, rfl, H1.out.1, H1.out.2.1, H1.out.2.2, fun i hi => by omega⟩
          case round =>
            clear H1 g0
            obtain ⟨j, M', hj, rfl, rfl, ht, hL, hM, hd⟩ := hrel
            have H1 : Hid (Turn (Blk Us) W0 wr ∧ Lots wr Us N M' ∧ (∀ r, r < k → M' r = mks r (N r)) ∧ ∀ i, i < j → gd (M' k) i = mrk k i) := ⟨ht, hL, hM, hd⟩
            have g0 := HCL.out wr ht k _ HU.out
            clear ht hM hd
            by_cases hjN : j < N k
            · have i3 : (j : Int) < (N k : Int) := by omega
              have ho := (hL k _ HU.out).1.own
              have hlk := (hL k _ HU.out).2
              rw [hlk] at ho
              obtain ⟨g, cap, e, _, _⟩ := ho.form (by omega)
              injection e with e1 _ e3
              subst e1
              subst e3
              obtain ⟨⟨f, r, hf⟩, q1, _, _⟩ := own_row ho
              have g1 := r.cell (i := j) (by omega)
              have g2 := r.frozen j
              have g3 : f j = .int .u8 ((gd (M' k) j : Nat) : Int) := by
                have := hf j hjN
                rw [bv_at (by omega)] at this
                exact (Option.some.inj this).symm
              rw [g3] at g1
              have cv := conv_mrk k j
              have cv2 : (37 * (k : Int) + (j : Int)) % 256 = ((mrk k j : Nat) : Int) := by unfold mrk; omega
              have HNX : Hid (∃ M2 : Nat → List Nat, Turn (Blk Us) W0 (wr.setCell ⟨g, j, none⟩ (.int .u8 (mrk k j : Nat))) ∧ Lots (wr.setCell ⟨g, j, none⟩ (.int .u8 (mrk k j : Nat))) Us N M2 ∧ (∀ r, r < k → M2 r = mks r (N r)) ∧ ∀ i, i < j + 1 → gd (M2 k) i = mrk k i) := by
                refine ⟨fun r => if r = k then (M' k).set j (mrk k j) else M' r, H1.out.1.trans (Turn.setCell wr ⟨g, j, none⟩ _ (F := Blk Us) ⟨_, List.mem_of_getElem? HU.out, rfl⟩) (fun i q => Or.inl q), H1.out.2.1.set HS.out HU.out hjN (mrk_lt k j), fun r hr => ?_, fun i hi => ?_⟩
                · show (if r = k then (M' k).set j (mrk k j) else M' r) = _
                  rw [if_neg (by omega)]
                  exact H1.out.2.2.1 r hr
                · show gd (if k = k then (M' k).set j (mrk k j) else M' k) i = _
                  rw [if_pos rfl, gd_set (by omega)]
                  by_cases q : i = j
                  · rw [if_pos q, q]
                  · rw [if_neg q]
                    exact H1.out.2.2.2 i (by omega)
              clear hL ho hlk r hf g3 q1 H1
              go_wp2_with fail
              go_roundg (N k - (j + 1))
              case measure => omega
              case rel =>
                obtain ⟨M2, hM2⟩ := HNX.out
                exact ⟨j + 1, M2, hjN, rfl, by go_num, hM2⟩
            · have i3 : ¬ ((j : Int) < (N k : Int)) := by omega
              have H2 : Hid (Turn (Blk Us) W0 wr ∧ Lots wr Us N M' ∧ ∀ r, r < k + 1 → M' r = mks r (N r)) := ⟨H1.out.1, H1.out.2.1, fun r hr => by
                by_cases q : r = k
                · subst q
                  refine ext_gd ?_ (fun i hi => ?_)
                  · rw [mks_len]; exact (H1.out.2.1 r _ HU.out).2
                  · have hl := (H1.out.2.1 r _ HU.out).2
                    rw [mks_gd (by omega)]
                    exact H1.out.2.2.2 i (by omega)
                · exact H1.out.2.2.1 r (by omega)⟩
              clear H1 hL g0
              go_wp2_with fail
              go_roundg (n - (k + 1))
              case measure => omega
              case rel => exact ⟨k + 1, M', hkn, rfl, by go_num, H2.out⟩
        · have i2 : ¬ ((k : Int) < (n : Int)) := by omega
          have hL' : Lots wr Us N (fun r => mks r (N r)) := fun r u hu => by
            have hr : r < n := by have := (List.getElem?_eq_some_iff.1 hu).1; have := HE.out; omega
            have h1 := hL r u hu
            rw [hM r (by omega)] at h1
            exact h1
          obtain ⟨WM, eWM⟩ : ∃ WM, WM = wr.alloc (.cells #[.int .u8 17, .int .u8 238] 5) := ⟨_, rfl⟩
          obtain ⟨mb, emb⟩ : ∃ mb, mb = wr.heap.size := ⟨_, rfl⟩
          have bM : Below wr.heap.size wr WM := by rw [eWM]; exact below_alloc _ _
          have HM0 : Hid (WM = wr.alloc (.cells #[.int .u8 17, .int .u8 238] 5) ∧ mb = wr.heap.size) := ⟨eWM, emb⟩
          have HMW : Hid (Turn (Blk Us) W0 WM ∧ Lots WM Us N (fun r => mks r (N r)) ∧ WM.heap[mb]? = some (.cells #[.int .u8 17, .int .u8 238] 5 (0, 0)) ∧ ¬ Blk Us mb) := ⟨ht.trans (Turn.of_below bM (F := Blk Us)) (fun _ z => Or.inl z), fun r u hu => ⟨⟨own_same (hL' r u hu).1.own (fun g hg => bM.block g ((hL' r u hu).1.own.lt g hg).2), (hL' r u hu).1.foot, (hL' r u hu).1.ok⟩, (hL' r u hu).2⟩, by rw [eWM, emb]; exact heap_alloc_new _ _, fun z => by have := HWB0.out mb z; have := ht.size; omega⟩
          obtain ⟨i0, hi0, hz0, hz1, hz2⟩ := info_parts infoB
          have HI : Hid (Try.prog.info? 22 = some i0 ∧ i0.zero = some nilS ∧ i0.size = 1 ∧ i0.bytes = 24) := ⟨hi0, hz0, hz1, hz2⟩
          clear hi0 hz0 hz1 hz2 ht hL hM hL' eWM emb bM
          go_wp2_with fail
          rw [← HM0.out.1, ← HM0.out.2]
          go_loopg [53] 2 (fun gg qq wr => ∃ q : Nat, q ≤ 2 ∧ gg = 2 - q ∧ qq = .int .i64 q ∧ Turn (Blk Us) W0 wr ∧ Lots wr Us N (fun r => mks r (N r)) ∧ wr.heap[mb]? = some (.cells #[.int .u8 17, .int .u8 238] 5 (0, 0)))
          case atStart => exact ⟨0, by omega, rfl, rfl, HMW.out.1, HMW.out.2.1, HMW.out.2.2.1⟩
          case round =>
            obtain ⟨q, hq, rfl, rfl, ht, hL, hmb⟩ := hrel
            obtain ⟨W, eW⟩ : ∃ W, W = wr := ⟨_, rfl⟩
            subst eW
            have HTW : Hid (Turn (Blk Us) W0 W) := ht
            have HLW : Hid (Lots W Us N (fun r => mks r (N r)) ∧ W.heap[mb]? = some (.cells #[.int .u8 17, .int .u8 238] 5 (0, 0))) := ⟨hL, hmb⟩
            have HWB : Hid (∀ i, Blk Us i → i < W.heap.size) := fun i z => by have := HWB0.out i z; have := ht.size; omega
            by_cases hq2 : q < 2
            · have i3 : (q : Int) < 2 := by omega
              obtain ⟨m, em⟩ : ∃ m, m = if q = 0 then 17 else 238 := ⟨_, rfl⟩
              have cm : W.cell? ⟨mb, q, none⟩ = some (.int .u8 ((m : Nat) : Int)) := by
                rw [cell_of_row _ _ _ _ 5 _ hmb]
                rcases (by omega : q = 0 ∨ q = 1) with rfl | rfl
                · rw [em]; rfl
                · rw [em]; rfl
              have HM : Hid (m < 256) := by
                show m < 256
                rw [em]
                split <;> omega
              clear ht hL hmb em
              go_wp2_with fail
              go_loopg [10, 59] n (fun gg v ii wr => ∃ (k : Nat) (X : Nat → Value), k ≤ n ∧ gg = n - k ∧ ii = .int .i64 k ∧ Sm W wr Us N (fun r => mks r (N r)) (fars m) X v k)
              case atStart => exact ⟨0, _, Nat.zero_le _, rfl, rfl, Sm.start HLW.out.1⟩
              case round =>
                clear cm
                obtain ⟨k, X, hk, rfl, rfl, hO⟩ := hrel
                obtain ⟨v, ev⟩ : ∃ v, v = u10 := ⟨_, rfl⟩
                subst ev
                by_cases hkn : k < n
                · have i4 : (k : Int) < (n : Int) := by omega
                  obtain ⟨lb, rfl, hcell⟩ := HLB.out (by omega)
                  have HCL : Hid (∀ v, Turn (Blk Us) W0 v → ∀ r u, Us[r]? = some u → v.cell? ⟨lb, r, none⟩ = some u) := hcell
                  obtain ⟨u, eu⟩ : ∃ u, Us[k]? = some u := ⟨_, List.getElem?_eq_getElem (by have := HE.out; omega)⟩
                  obtain ⟨a, c, eu2⟩ : ∃ a c, u = .slice a (N k) c := by
                    have := (hO.base k u eu).1.own
                    rw [(hO.base k u eu).2] at this
                    exact own_slice this
                  subst eu2
                  have HU : Hid (Us[k]? = some (.slice a (N k) c)) := eu
                  have HNK : Hid (N k ≤ 1048576) := HB.out k hkn
                  have HSD : Hid (Sm W wr.drew Us N (fun r => mks r (N r)) (fars m) X v k) := hO.below (Below.drew (Below.refl _ _))
                  have HTD : Hid (Turn (Blk Us) W0 wr.drew) := HTW.out.trans HSD.out.turn (fun _ z => Or.inl z)
                  clear hcell eu hO
                  go_wp2_with fail
                  refine wp_region_held_drew (S := fun w' => Turn (Blk Us) W0 w') (by kernel_rfl) (HTD.out) ?_
                  intro hS
                  change wpAnyH _ _ _ _ _ 14 _ _ _
                  generalize wr.drew = wd at hS HSD HTD ⊢
                  refine wpAnyH_take (i := 0) (v := v) (by simp only [List.getElem?_toArray, List.getElem?_cons_zero]; rfl) (by kernel_rfl) (by kernel_rfl) (by kernel_rfl) (by exact fun _ _ _ h => h) (y_move (by kernel_rfl) _ rfl _ rfl) hS ?_
                  try simp only [Act.put, List.setIfInBounds_toArray, List.set_cons_zero, List.set_cons_succ]
                  refine wpAnyH_take (i := 1) (v := (.slice (some ⟨lb, 0, none⟩) n cl)) (by simp only [List.getElem?_toArray, List.getElem?_cons_zero, List.getElem?_cons_succ]; rfl) (by kernel_rfl) (by kernel_rfl) (by kernel_rfl) (by exact fun _ _ _ h => h) (y_move (by kernel_rfl) _ rfl _ rfl) hS ?_
                  try simp only [Act.put, List.setIfInBounds_toArray, List.set_cons_zero, List.set_cons_succ]
                  refine wpAnyH_take (i := 2) (v := (.int .i64 ((k : Nat) : Int))) (by simp only [List.getElem?_toArray, List.getElem?_cons_zero, List.getElem?_cons_succ]; rfl) (by kernel_rfl) (by kernel_rfl) (by kernel_rfl) (by exact fun _ _ _ h => h) (y_move (by kernel_rfl) _ rfl _ rfl) hS ?_
                  try simp only [Act.put, List.setIfInBounds_toArray, List.set_cons_zero, List.set_cons_succ]
                  refine wpAnyH_take (i := 3) (v := (.pointer (some ⟨lb, k, none⟩))) (by simp only [List.getElem?_toArray, List.getElem?_cons_zero, List.getElem?_cons_succ]; rfl) (by kernel_rfl) (by kernel_rfl) (by kernel_rfl) (by exact fun _ _ _ h => h) (y_indexL (by kernel_rfl) _ _ rfl lb n cl k rfl rfl hkn) hS ?_
                  try simp only [Act.put, List.setIfInBounds_toArray, List.set_cons_zero, List.set_cons_succ]
                  refine wpAnyH_take (i := 4) (v := (.slice a (N k) c)) (by simp only [List.getElem?_toArray, List.getElem?_cons_zero, List.getElem?_cons_succ]; rfl) (by kernel_rfl) (by kernel_rfl) (by kernel_rfl) (by exact fun _ _ _ h => h) (y_loadB (by kernel_rfl) _ rfl _ _ rfl _ (fun w' hs => HCL.out w' hs k _ HU.out)) hS ?_
                  try simp only [Act.put, List.setIfInBounds_toArray, List.set_cons_zero, List.set_cons_succ]
                  refine wpAnyH_take (i := 5) (v := (.int .u8 ((m : Nat) : Int))) (by simp only [List.getElem?_toArray, List.getElem?_cons_zero, List.getElem?_cons_succ]; rfl) (by kernel_rfl) (by kernel_rfl) (by kernel_rfl) (by exact fun _ _ _ h => h) (y_move (by kernel_rfl) _ rfl _ rfl) hS ?_
                  try simp only [Act.put, List.setIfInBounds_toArray, List.set_cons_zero, List.set_cons_succ]
                  refine wpAnyH_take (i := 6) (v := (.int .i64 ((k : Nat) : Int))) (by simp only [List.getElem?_toArray, List.getElem?_cons_zero, List.getElem?_cons_succ]; rfl) (by kernel_rfl) (by kernel_rfl) (by kernel_rfl) (by exact fun _ _ _ h => h) (y_move (by kernel_rfl) _ rfl _ rfl) hS ?_
                  try simp only [Act.put, List.setIfInBounds_toArray, List.set_cons_zero, List.set_cons_succ]
                  refine wpAnyH_take (i := 7) (v := (.int .u8 ((k % 256 : Nat) : Int))) (by simp only [List.getElem?_toArray, List.getElem?_cons_zero, List.getElem?_cons_succ]; rfl) (by kernel_rfl) (by kernel_rfl) (by kernel_rfl) (by exact fun _ _ _ h => h) (y_conv8 (by kernel_rfl) _ rfl k rfl) hS ?_
                  try simp only [Act.put, List.setIfInBounds_toArray, List.set_cons_zero, List.set_cons_succ]
                  refine wpAnyH_take (i := 8) (v := (.int .u8 ((far m k : Nat) : Int))) (by simp only [List.getElem?_toArray, List.getElem?_cons_zero, List.getElem?_cons_succ]; rfl) (by kernel_rfl) (by kernel_rfl) (by kernel_rfl) (by exact fun _ _ _ h => h) (y_xor8 (by kernel_rfl) _ _ rfl m k HM.out rfl rfl) hS ?_
                  try simp only [Act.put, List.setIfInBounds_toArray, List.set_cons_zero, List.set_cons_succ]
                  refine wpAnyH_ready (rs := [9]) (by kernel_rfl) (by simp) ?_
                  refine AllReadyH.cons (by simp only [List.getElem?_toArray, List.getElem?_cons_zero, List.getElem?_cons_succ]; rfl) (fun K hK => ?_) AllReadyH.nil
                  refine r_call1 36 _ _ rfl (by kernel_rfl) _ rfl eRoom ?_
                  refine (room_any wd (far m k)).mono ?_
                  rintro e w2 ⟨rfl, rm2, b2⟩
                  have s2 := HSD.out.below b2
                  have T2 : Turn (Blk Us) W0 w2 := HTD.out.trans (Turn.of_below b2 (F := Blk Us)) (fun _ z => Or.inl z)
                  refine ⟨_, rfl, ?_⟩
                  refine hK.out _ _ T2 (fun hS => ?_)
                  clear hK K
                  try simp only [Act.put, List.setIfInBounds_toArray, List.set_cons_zero, List.set_cons_succ]
                  refine wpAnyH_ready (rs := [10]) (by kernel_rfl) (by simp) ?_
                  refine AllReadyH.cons (by simp only [List.getElem?_toArray, List.getElem?_cons_zero, List.getElem?_cons_succ]; rfl) (fun K hK => ?_) AllReadyH.nil
                  refine step_gw (by rfl) (.tmp 66) (.tmp 71) (by rfl) (.slice a (N k) c) (mks k (N k)) (fars m k) (by rfl) ((s2.base k _ HU.out).1) wd.heap.size (by rfl) (by exact rm2) (fun x hx => by rw [List.eq_of_mem_replicate hx]; exact far_lt HM.out k) (by simp [fars]) (by rw [mks_len]; simp [fars]; have := HNK.out; omega) ?_
                  intro x3 w3 gw3
                  have T3 : Turn (Blk Us) W0 w3 := T2.trans gw3.turn (fun i z => Or.inl ⟨_, List.mem_of_getElem? HU.out, z⟩)
                  obtain ⟨ax, cx, ex⟩ : ∃ ax cx, x3 = .slice ax (N k + 64) cx := by
                    have := gw3.str.own
                    rw [List.length_append, mks_len, show (fars m k).length = 64 by simp [fars]] at this
                    exact own_slice this
                  subst ex
                  refine hK.out _ _ T3 (fun hS => ?_)
                  clear hK K
                  try simp only [Act.put, List.setIfInBounds_toArray, List.set_cons_zero, List.set_cons_succ]
                  refine wpAnyH_ready (rs := [11]) (by kernel_rfl) (by simp) ?_
                  refine AllReadyH.cons (by simp only [List.getElem?_toArray, List.getElem?_cons_zero, List.getElem?_cons_succ]; rfl) (fun K hK => ?_) AllReadyH.nil
                  refine r_build1 _ rfl (by kernel_rfl) ax (N k + 64) cx rfl ?_
                  have T4 : Turn (Blk Us) W0 (w3.alloc (.cells #[.slice ax (N k + 64) cx] 22)) := T3.trans (Turn.alloc w3 _ (F := Blk Us)) (fun _ z => Or.inl z)
                  refine hK.out _ _ T4 (fun hS => ?_)
                  clear hK K
                  try simp only [Act.put, List.setIfInBounds_toArray, List.set_cons_zero, List.set_cons_succ]
                  refine wpAnyH_ready (rs := [12]) (by kernel_rfl) (by simp) ?_
                  refine AllReadyH.cons (by simp only [List.getElem?_toArray, List.getElem?_cons_zero, List.getElem?_cons_succ]; rfl) (fun K hK => ?_) AllReadyH.nil
                  have own5 : (w3.alloc (.cells #[.slice ax (N k + 64) cx] 22)).ownsRow W.heap.size 22 1 v k ((List.range k).map X) := (own_turn s2.own gw3.turn (fun g hg z => by
                    obtain ⟨cur, hc⟩ := own_block s2.own hg
                    exact ((s2.base k _ HU.out).1).ne hc (by decide) z)).alloc _
                  refine step_append_lies _ (by rfl) (.tmp 62) (.tmp 73) 50 (by rfl) W.heap.size 22 i0 nilS 1 24 Try.underlying50 HI.out.1 HI.out.2.1 HI.out.2.2.1 HI.out.2.2.2 (by rfl) (by decide) v k ((List.range k).map X) (by rfl) own5 ⟨w3.heap.size, 0, none⟩ 1 1 [.slice ax (N k + 64) cx] (by rfl) (by rfl) (World.news_of_block (cs := #[.slice ax (N k + 64) cx]) (t := 22) (fr := (0, 0)) (heap_alloc_new _ _)) (by simp [Value.oneCell']) (by decide) (by unfold maxLen; omega) (by omega) (by have := s2.turn.size; have := gw3.turn.size; simp; omega) _ (by rfl) ?_
                  intro g9 cap9 w9 own9 gr9 at9 lt9
                  have hN := s2.next HS.out HU.out HWB.out gw3 own9 gr9
                  have T9 : Turn (Blk Us) W0 w9 := HTW.out.trans hN.turn (fun _ z => Or.inl z)
                  refine hK.out _ _ T9 (fun hS => ?_)
                  have HN2 : Hid (∃ X', Sm W w9 Us N (fun r => mks r (N r)) (fars m) X' (.slice (some ⟨g9, 0, none⟩) (k + 1) cap9) (k + 1)) := ⟨_, hN⟩
                  clear own5 own9 gr9 at9 lt9 hN T9 gw3 T3 T4 s2 T2 rm2 b2
                  clear hK K
                  try simp only [Act.put, List.setIfInBounds_toArray, List.set_cons_zero, List.set_cons_succ]
                  refine wpAnyH_take (i := 13) (v := (.slice (some ⟨g9, 0, none⟩) (k + 1) cap9)) (by simp only [List.getElem?_toArray, List.getElem?_cons_zero, List.getElem?_cons_succ]; rfl) (by kernel_rfl) (by kernel_rfl) (by kernel_rfl) (by exact fun _ _ _ h => h) (y_assign (by kernel_rfl) _ rfl _ rfl) hS ?_
                  try simp only [Act.put, List.setIfInBounds_toArray, List.set_cons_zero, List.set_cons_succ]
                  refine wpAnyH_done (by kernel_rfl) ?_ _
                  clear hS HSD HTD
                  go_wp2_with fail
                  go_roundg (n - (k + 1))
                  case measure => omega
                  case rel =>
                    obtain ⟨X', hX'⟩ := HN2.out
                    exact ⟨k + 1, X', hkn, rfl, by go_num, hX'⟩
                · have ek : k = n := by omega
                  have i4 : ¬ ((k : Int) < (n : Int)) := by omega
                  subst ek
                  obtain ⟨V, eV⟩ : ∃ V, V = wr := ⟨_, rfl⟩
                  subst eV
                  obtain ⟨al5, cl5, e5⟩ := own_slice hO.own
                  subst e5
                  have HO : Hid (Sm W V Us N (fun r => mks r (N r)) (fars m) X (.slice al5 k cl5) k ∧ Turn (Blk Us) W0 V) := ⟨hO, HTW.out.trans hO.turn (fun _ z => Or.inl z)⟩
                  have HMV : Hid (V.heap[mb]? = some (.cells #[.int .u8 17, .int .u8 238] 5 (0, 0))) := (hO.turn.block mb (Array.getElem?_eq_some_iff.1 HLW.out.2).1 HMW.out.2.2.2).trans HLW.out.2
                  clear hO
                  go_wp2_with fail
                  go_loopg [78] k (fun gg ii wr => ∃ r : Nat, r ≤ k ∧ gg = k - r ∧ ii = .int .i64 r ∧ wr = V)
                  case atStart => exact ⟨0, Nat.zero_le _, rfl, rfl, rfl⟩
                  case round =>
                    obtain ⟨r, hr, rfl, rfl, ewr⟩ := hrel
                    subst ewr
                    by_cases hrk : r < k
                    · have i5 : (r : Int) < (k : Int) := by omega
                      obtain ⟨lb, rfl, hcell⟩ := HLB.out (by omega)
                      obtain ⟨u, eu⟩ : ∃ u, Us[r]? = some u := ⟨_, List.getElem?_eq_getElem (by have := HE.out; omega)⟩
                      have c0 := hcell wr HO.out.2 r u eu
                      have hbu := HO.out.1.base r u eu
                      obtain ⟨au, cu, eu2⟩ : ∃ a c, u = .slice a (N r) c := by
                        have := hbu.1.own
                        rw [hbu.2] at this
                        exact own_slice this
                      subst eu2
                      have hx := HO.out.1.str r hrk
                      have lx : (mks r (N r) ++ fars m r).length = N r + 64 := by rw [List.length_append, mks_len]; simp [fars]
                      obtain ⟨xg, xc, ex, _, _⟩ := hx.own.form (by omega)
                      rw [lx] at ex
                      obtain ⟨lg, lc, e5, _, _⟩ := HO.out.1.own.form (by omega)
                      injection e5 with e5 _ e6
                      subst e5
                      subst e6
                      have c1 : wr.cell? ⟨lg, r, none⟩ = some (.slice (some ⟨xg, 0, none⟩) (N r + 64) xc) := by
                        have := HO.out.1.own.cells (g := lg) rfl r (X r) (by rw [List.getElem?_map, List.getElem?_range hrk]; rfl)
                        rw [add_flat, ex] at this
                        exact this
                      have HX : Hid (∀ j, j < N r + 64 → wr.cell? ⟨xg, j, none⟩ = some (.int .u8 ((if j < N r then mrk r j else far m r : Nat) : Int))) := fun j hj => by
                        have := hx.own.cells (g := xg) (by rw [ex]; rfl) j _ (bv_at (s := mks r (N r) ++ fars m r) (by omega))
                        rw [add_flat] at this
                        rw [this]
                        by_cases q : j < N r
                        · rw [if_pos q, gd_app_l (by rw [mks_len]; exact q), mks_gd q]
                        · rw [if_neg q]
                          obtain ⟨j', rfl⟩ : ∃ j', j = (mks r (N r)).length + j' := ⟨j - N r, by rw [mks_len]; omega⟩
                          rw [gd_app_r]
                          rw [mks_len] at hj
                          unfold fars gd
                          rw [List.getD_eq_getElem?_getD, List.getElem?_replicate, if_pos (by omega)]
                          rfl
                      have HUU : Hid (∀ j, j < N r → ∃ g, au = some ⟨g, 0, none⟩ ∧ wr.cell? ⟨g, j, none⟩ = some (.int .u8 ((mrk r j : Nat) : Int))) := fun j hj => by
                        have ho := hbu.1.own
                        rw [mks_len] at ho
                        obtain ⟨g, cap, e, _, _⟩ := ho.form (by omega)
                        injection e with e1 _ _
                        subst e1
                        have := ho.cells (g := g) rfl j _ (bv_at (s := mks r (N r)) (by rw [mks_len]; exact hj))
                        rw [add_flat, mks_gd hj] at this
                        exact ⟨g, rfl, this⟩
                      have n0 := HB.out r hrk
                      clear hcell eu hbu hx ex lx
                      go_wp2_with fail
                      go_loopg [86] (N r) (fun gg jj wi => ∃ c : Nat, c ≤ N r ∧ gg = N r - c ∧ jj = .int .i64 c ∧ wi = wr)
                      case atStart => exact ⟨0, Nat.zero_le _, rfl, rfl, rfl⟩
                      case round =>
                        obtain ⟨j, hj, rfl, rfl, ewi⟩ := hrel
                        subst ewi
                        by_cases hjN : j < N r
                        · have i6 : (j : Int) < (N r : Int) := by omega
                          have i7 : (j : Int) < (N r : Int) + 64 := by omega
                          have c2 := HX.out j (by omega)
                          rw [if_pos hjN] at c2
                          obtain ⟨g, rfl, c3⟩ := HUU.out j hjN
                          have cv := conv_mrk r j
                          have cv2 : (37 * (r : Int) + (j : Int)) % 256 = ((mrk r j : Nat) : Int) := by unfold mrk; omega
                          generalize mrk r j = z at *
                          go_wp2_with fail
                          go_roundg (N r - (j + 1))
                          case measure => omega
                          case rel => exact ⟨j + 1, hjN, rfl, by go_num, rfl⟩
                        · have ej : j = N r := by omega
                          have i6 : ¬ ((j : Int) < (N r : Int)) := by omega
                          go_wp2_with fail
                          go_loopg [14] 64 (fun gg jj wi => ∃ c : Nat, c ≤ 64 ∧ gg = 64 - c ∧ jj = .int .i64 ((N r : Int) + c) ∧ wi = wr)
                          case atStart => exact ⟨0, by omega, rfl, by simp, rfl⟩
                          case round =>
                            obtain ⟨c, hc, rfl, rfl, ewi⟩ := hrel
                            subst ewi
                            by_cases hc64 : c < 64
                            · have i8 : (N r : Int) + c < (N r : Int) + 64 := by omega
                              have c2 := HX.out (N r + c) (by omega)
                              rw [if_neg (by omega)] at c2
                              have cf := conv_far r
                              have xf := xor_far HM.out r
                              have xf2 : bits .xor .u8 ((m : Nat) : Int) ((r : Int) % 256) = ((far m r : Nat) : Int) := by rw [show (r : Int) % 256 = ((r % 256 : Nat) : Int) by omega]; exact xf
                              have ec : ((N r : Int) + c).toNat = N r + c := by omega
                              generalize far m r = z at *
                              go_wp2_with fail
                              go_roundg (64 - (c + 1))
                              case measure => omega
                              case rel => exact ⟨c + 1, hc64, rfl, by go_num, rfl⟩
                            · have ec : c = 64 := by omega
                              subst ec
                              have i8 : ¬ ((N r : Int) + ((64 : Nat) : Int) < (N r : Int) + 64) := by omega
                              go_wp2_with fail
                              go_roundg (k - (r + 1))
                              case measure => omega
                              case rel => exact ⟨r + 1, hrk, rfl, by go_num, rfl⟩
                    · have i5 : ¬ ((r : Int) < (k : Int)) := by omega
                      go_wp2_with fail
                      go_roundg (2 - (q + 1))
                      case measure => omega
                      case rel => exact ⟨q + 1, hq2, rfl, by go_num, HO.out.2, HO.out.1.base, HMV.out⟩
            · have e2 : q = 2 := by omega
              subst e2
              clear ht hL hmb
              go_wp2_with fail
              go_ret
              exact ⟨rfl, by rw [HN.out.1]; exact HEND.out _ HTW.out⟩
end Go.Proofs.Ytlpmcdnhnhgmpaa
