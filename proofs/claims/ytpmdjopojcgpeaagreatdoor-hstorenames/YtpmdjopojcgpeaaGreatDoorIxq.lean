import Derived.Test.YtpmdjopojcgpeaaGreatDoorYuq
/-
  (*Device).under. (Written by gen_un.py.)
-/
namespace Go.Proofs.YtpmdjopojcgpeaaGreatDoor
open Go.RowKit Go.Maps Go.ChangeMaps

/-- what stood there at a time -/
def undr (S : List Sty) (t : Int) : Sty := if ahd S (t + 1) = 0 then ⟨0, [], false⟩ else (S[ahd S (t + 1) - 1]?).getD ⟨0, [], false⟩
theorem stc_one (t : Int) (a : Option Addr) (n c : Nat) (b : Bool) : [Value.int .i64 t, .slice a n c, .bool b].toArray.all (·.oneCell') = true := by
  refine all_oneCell_toArray (fun x hx => ?_)
  simp only [List.mem_cons, List.not_mem_nil, or_false] at hx
  rcases hx with rfl | rfl | rfl <;> rfl
theorem zeroMs (w : World) : (zeroValue 155).run Tryz.prog w = .ok nilS w := zero_of_info (n := 1) (by kernel_rfl) w
theorem zeroMb (w : World) : (zeroValue 29).run Tryz.prog w = .ok nilS w := zero_of_info (n := 1) (by kernel_rfl) w
theorem zeroMv (w : World) : (zeroValue 62).run Tryz.prog w = .ok nilS w := zero_of_info (n := 1) (by kernel_rfl) w
theorem Dr.sts {w : World} {F : Nat → Prop} {s : Dst} {X : Dx} (h : Dr w F s X) (hN : X.N ≤ 1073741824) {k : List Nat} (hk : IsH k) : Sts w (X.V3 k) (s.sta k) := by
  obtain ⟨n, xs, own, ⟨rfl, ds, hl, rfl, hd⟩, hn⟩ := h.st.row k hk
  rcases own.2 with ⟨e, h0⟩ | ⟨g, cap, cur, e, hB, hg, h1, h2, h3, h4⟩
  · exact ⟨none, 0, 0, 0, by rw [e, h0], fun q => by omega, fun i x hx => by have := (List.getElem?_eq_some_iff.1 hx).1; omega, by omega, by omega⟩
  · refine ⟨_, g, 0, cap, e, fun _ => rfl, fun i x hx => ?_, h1, by omega⟩
    have hi : i < ds.length := by rw [hl]; exact (List.getElem?_eq_some_iff.1 hx).1
    refine ⟨ds[i], fun j v hv => ?_, (hd i _ x (List.getElem?_eq_getElem hi) hx).vb⟩
    have := World.ownsRow.cells own (g := g) (by rw [e]; rfl) (i * 3 + j) v (sts_at ds (s.sta k) i ds[i] x (List.getElem?_eq_getElem hi) hx j v hv)
    rw [add_flat] at this
    rw [Nat.zero_add]
    exact this
set_option maxRecDepth 100000 in
set_option maxHeartbeats 3200000 in
theorem under_any {w : World} {F : Nat → Prop} {g : Nat} {s : Dst} {X : Dx} (hd : Db w g (X.dvf s)) (h : Dr w F s X) (hN : X.N ≤ 1073741824) {k : List Nat} (hk : IsH k) (t : Int) (ht0 : 0 ≤ t) (ht1 : t ≤ 1099511627774) :
    Calls Tryz.prog 172 #[.pointer (some ⟨g, 0, none⟩), .agg (bv k).toArray, .int .i64 t] w fun e w' => ∃ d, e = .returned (.agg #[.int .i64 (undr (s.sta k) t).since, d, .bool (undr (s.sta k) t).there]) ∧ Vb w' d (undr (s.sta k) t).data ∧ Below w.heap.size w w' := by
  have HW : Hid (∀ u, Below (w.alloc (.cells (bv k).toArray 38)).heap.size (w.alloc (.cells (bv k).toArray 38)) u → Db u g (X.dvf s) ∧ Mh u X.m3 X.N X.D3 X.V3 ∧ u.rangeAt w.heap.size 0 (bv k) ∧ Sts u (X.V3 k) (s.sta k) ∧ Below w.heap.size w u) := fun u b2 => by
    have b1 : Below w.heap.size w (w.alloc (.cells (bv k).toArray 38)) := (Below.refl _ _).alloc (Nat.le_refl _) _
    have b := ch b1 b2
    exact ⟨hd.keep b, (h.keep b).st.mh, rng_keep (rng_new w _ _) b2, (h.sts hN hk).keep b, b⟩
  have HU : Hid (Up (s.sta k)) := (h.up k hk).1
  obtain ⟨va, vb, vo, vc, ev, hv1, hv2, hv3, hv4⟩ := h.sts hN hk
  obtain ⟨n, en⟩ : ∃ n, n = (s.sta k).length := ⟨_, rfl⟩
  rw [← en] at ev hv1 hv3 hv4
  have HN : Hid (n = (s.sta k).length ∧ X.V3 k = .slice va n vc) := ⟨en, ev⟩
  have HS : Hid (∀ u, Below (w.alloc (.cells (bv k).toArray 38)).heap.size (w.alloc (.cells (bv k).toArray 38)) u → Sts u (.slice va n vc) (s.sta k)) := fun u hu => by
    have := (HW.out u hu).2.2.2.1
    rw [ev] at this
    exact this
  have HC : Hid ((0 < n → va = some ⟨vb, vo, none⟩) ∧ ∀ (i : Nat) (x : Sty), (s.sta k)[i]? = some x → ∃ d, w.rangeAt vb (vo + i * 3) (stc x.since d x.there) ∧ Vb w d x.data) := ⟨hv1, hv2⟩
  have HK : Hid (IsH k) := hk
  have ha : wrap64 (t + 1) = t + 1 := by unfold wrap64; omega
  clear hd h ev en hv1 hv2
  go_enter Tryz.func172, Tryz.ntmps172
  go_wp2_with fail
  refine wp_region_held_drew (S := fun u => Below (w.alloc (.cells (bv k).toArray 38)).heap.size (w.alloc (.cells (bv k).toArray 38)) u) (by kernel_rfl) (by exact ((Below.refl _ _).alloc (Nat.le_refl _) _).drew) ?_
  intro hS
  change wpAnyH _ _ _ _ _ 7 _ _ _
  refine wpAnyH_take (i := 0) (v := (.pointer (some ⟨g, 0, none⟩))) (by simp only [List.getElem?_toArray, List.getElem?_cons_zero]; rfl) (by kernel_rfl) (by kernel_rfl) (by kernel_rfl) (by exact fun _ _ _ h => h) (y_move (by kernel_rfl) _ rfl _ rfl) hS ?_
  try simp only [Act.put, List.setIfInBounds_toArray, List.set_cons_zero, List.set_cons_succ]
  refine wpAnyH_take (i := 1) (v := (.pointer (some ⟨g, 0, none⟩))) (by simp only [List.getElem?_toArray, List.getElem?_cons_zero, List.getElem?_cons_succ]; rfl) (by kernel_rfl) (by kernel_rfl) (by kernel_rfl) (by exact fun _ _ _ h => h) (y_nil (by kernel_rfl) _ rfl _ rfl) hS ?_
  try simp only [Act.put, List.setIfInBounds_toArray, List.set_cons_zero, List.set_cons_succ]
  refine wpAnyH_take (i := 2) (v := (.pointer (some ⟨g, 0 + 41, none⟩))) (by simp only [List.getElem?_toArray, List.getElem?_cons_zero, List.getElem?_cons_succ]; rfl) (by kernel_rfl) (by kernel_rfl) (by kernel_rfl) (by exact fun _ _ _ h => h) (y_f_Dev9 (by kernel_rfl) _ rfl _ _ rfl) hS ?_
  try simp only [Act.put, List.setIfInBounds_toArray, List.set_cons_zero, List.set_cons_succ]
  refine wpAnyH_take (i := 3) (v := (.map (some X.m3))) (by simp only [List.getElem?_toArray, List.getElem?_cons_zero, List.getElem?_cons_succ]; rfl) (by kernel_rfl) (by kernel_rfl) (by kernel_rfl) (by exact fun _ _ _ h => h) (y_l_ms (by kernel_rfl) _ rfl _ _ rfl _ (fun u hs => ((HW.out u hs).1).at_.2.2.2.2.2.2.2.2.2.1)) hS ?_
  try simp only [Act.put, List.setIfInBounds_toArray, List.set_cons_zero, List.set_cons_succ]
  refine wpAnyH_take (i := 4) (v := (.agg (bv k).toArray)) (by simp only [List.getElem?_toArray, List.getElem?_cons_zero, List.getElem?_cons_succ]; rfl) (by kernel_rfl) (by kernel_rfl) (by kernel_rfl) (by exact fun _ _ _ h => h) (y_s_Hash (by kernel_rfl) _ rfl _ _ rfl k HK.out.1 (fun u hs => (HW.out u hs).2.2.1)) hS ?_
  try simp only [Act.put, List.setIfInBounds_toArray, List.set_cons_zero, List.set_cons_succ]
  refine wpAnyH_take (i := 5) (v := (.slice va n vc)) (by simp only [List.getElem?_toArray, List.getElem?_cons_zero, List.getElem?_cons_succ]; rfl) (by kernel_rfl) (by kernel_rfl) (by kernel_rfl) (by exact fun _ _ _ h => h) (y_look (by kernel_rfl) _ _ _ _ rfl _ _ _ rfl rfl (fun u hs => by rw [← HN.out.2]; exact (HW.out u hs).2.1.look Tryz.underlying121 zeroMs HK.out)) hS ?_
  try simp only [Act.put, List.setIfInBounds_toArray, List.set_cons_zero, List.set_cons_succ]
  refine wpAnyH_take (i := 6) (v := (.slice va n vc)) (by simp only [List.getElem?_toArray, List.getElem?_cons_zero, List.getElem?_cons_succ]; rfl) (by kernel_rfl) (by kernel_rfl) (by kernel_rfl) (by exact fun _ _ _ h => h) (y_assign (by kernel_rfl) _ rfl _ rfl) hS ?_
  try simp only [Act.put, List.setIfInBounds_toArray, List.set_cons_zero, List.set_cons_succ]
  refine wpAnyH_done (by kernel_rfl) ?_ _
  have HB0 : Hid (Below w.heap.size w ((w.alloc (.cells (bv k).toArray 38)).alloc (.cells #[.int .i64 0, .slice none 0 0, .bool false] 154)).drew) := (HW.out _ hS).2.2.2.2
  have HS1 : Hid (Sts ((w.alloc (.cells (bv k).toArray 38)).alloc (.cells #[.int .i64 0, .slice none 0 0, .bool false] 154)).drew (.slice va n vc) (s.sta k)) := HS.out _ hS
  have hblk : ((w.alloc (.cells (bv k).toArray 38)).alloc (.cells #[.int .i64 0, .slice none 0 0, .bool false] 154)).drew.heap[w.heap.size + 1]? = some (.cells #[.int .i64 0, .slice none 0 0, .bool false] 154 (0, 0)) := by
    have := heap_alloc_new (w.alloc (.cells (bv k).toArray 38)) (.cells #[.int .i64 0, .slice none 0 0, .bool false] 154)
    simpa [World.drew] using this
  have hsz : w.heap.size + 1 < ((w.alloc (.cells (bv k).toArray 38)).alloc (.cells #[.int .i64 0, .slice none 0 0, .bool false] 154)).drew.heap.size := by simp [World.drew]
  clear hS HW HS
  generalize ((w.alloc (.cells (bv k).toArray 38)).alloc (.cells #[.int .i64 0, .slice none 0 0, .bool false] 154)).drew = w1 at HB0 HS1 hblk hsz ⊢
  have HBLK : Hid (w1.heap[w.heap.size + 1]? = some (.cells #[.int .i64 0, .slice none 0 0, .bool false] 154 (0, 0))) := hblk
  clear hblk
  go_wp2_with (go_at_call 209; refine (bsearch_any HS1.out HU.out (t + 1) (by omega) (by omega)).mono ?_)
  rintro e w2 ⟨⟨bv2, rfl⟩, hb2⟩
  have HB2 : Hid (Below w.heap.size w w2) := HB0.out.trans (hb2.mono HB0.out.size)
  have HG2 : Hid (w2.heap[w.heap.size + 1]? = some (.cells #[.int .i64 0, .slice none 0 0, .bool false] 154 (0, 0))) := (hb2.block _ hsz).trans HBLK.out
  obtain ⟨m, em⟩ : ∃ m, m = ahd (s.sta k) (t + 1) := ⟨_, rfl⟩
  have hm := ahd_le (s.sta k) (t + 1)
  rw [← em, ← HN.out.1] at hm
  rw [← em]
  clear hb2 HB0 HS1 HBLK hsz
  by_cases h0 : m = 0
  · subst h0
    have HR : Hid (undr (s.sta k) t = ⟨0, [], false⟩) := by
      show undr (s.sta k) t = _
      unfold undr
      rw [if_pos em.symm]
    clear em
    go_wp2_with (refine wpList_stB (by kernel_rfl) 154 _ _ (by rfl) (w.heap.size + 1) [.int .i64 0, .slice none 0 0, .bool false] [.int .i64 0, .slice none 0 0, .bool false] i93 rfl (stc_one _ _ _ _ _) HG2.out (by rfl) (by rfl) ?_)
    have hr := setRow_heap' (cs' := #[.int .i64 0, .slice none 0 0, .bool false]) HG2.out
    refine bodyPost_ret (res1 rfl _ _ (w.heap.size + 1) _ rfl (run_loadVar_mid _ (w.heap.size + 1) 0 154 [.int .i64 0, .slice none 0 0, .bool false] _ (rng_row (cs := [.int .i64 0, .slice none 0 0, .bool false]) hr) Tryz.underlying154 rfl i93)) rfl ⟨.slice none 0 0, by rw [HR.out], by rw [HR.out]; exact ⟨none, 0, 0, 0, rfl, ⟨fun q => absurd q (by simp), fun i hi => absurd hi (by simp), fun i hi => absurd hi (by simp), by simp⟩, by simp, fun _ => rfl, by simp⟩, below_setRow HB2.out (by omega) _⟩
  · obtain ⟨⟨xt, xd, xb⟩, hx⟩ : ∃ x, (s.sta k)[m - 1]? = some x := ⟨_, List.getElem?_eq_getElem (by have := HN.out.1; omega)⟩
    have HR : Hid (undr (s.sta k) t = ⟨xt, xd, xb⟩) := by
      show undr (s.sta k) t = _
      unfold undr
      rw [← em, if_neg h0, hx]
      rfl
    obtain ⟨d, hr, hvd⟩ := HC.out.2 _ _ hx
    obtain rfl := HC.out.1 (by omega)
    have HV : Hid (Vb w d xd) := hvd
    have hr2 := rng_keep hr HB2.out
    have r0 : w2.cell? ⟨vb, vo + (m - 1) * 3, none⟩ = some (.int .i64 xt) := (rng_head hr2).1
    have r1 : w2.cell? ⟨vb, vo + (m - 1) * 3 + 1, none⟩ = some d := (rng_head (rng_head hr2).2).1
    have r2 : w2.cell? ⟨vb, vo + (m - 1) * 3 + 2, none⟩ = some (.bool xb) := (rng_head (rng_head (rng_head hr2).2).2).1
    have e1 : ((m : Int) == 0) = false := by
      have : ¬ (m : Int) = 0 := by omega
      simpa using this
    have e2 : (m : Int) - 1 = ((m - 1 : Nat) : Int) := by omega
    have e3 : wrap64 ((m - 1 : Nat) : Int) = ((m - 1 : Nat) : Int) := by unfold wrap64; omega
    obtain ⟨q, hq⟩ : ∃ q : Nat, q = m - 1 := ⟨_, rfl⟩
    rw [← hq] at r0 r1 r2 e2 e3
    have i0 : (0 : Int) ≤ (q : Int) := by omega
    have i1 : (q : Int) < (n : Int) := by omega
    obtain ⟨da, dn, dc, ed⟩ : ∃ a n c, d = .slice a n c := by
      obtain ⟨a, bb, off, c, e, _⟩ := hvd
      exact ⟨a, _, c, e⟩
    subst ed
    clear hr hr2 hx hvd h0 hm em hq
    go_wp2_with (refine wpList_stB (by kernel_rfl) 154 _ _ (by rfl) (w.heap.size + 1) [.int .i64 xt, .slice da dn dc, .bool xb] [.int .i64 0, .slice none 0 0, .bool false] i93 rfl (stc_one _ _ _ _ _) HG2.out (by rfl) (by rfl) ?_)
    have hr := setRow_heap' (cs' := #[.int .i64 xt, .slice da dn dc, .bool xb]) HG2.out
    refine bodyPost_ret (res1 rfl _ _ (w.heap.size + 1) _ rfl (run_loadVar_mid _ (w.heap.size + 1) 0 154 [.int .i64 xt, .slice da dn dc, .bool xb] _ (rng_row (cs := [.int .i64 xt, .slice da dn dc, .bool xb]) hr) Tryz.underlying154 rfl i93)) rfl ⟨.slice da dn dc, by rw [HR.out], ?_, below_setRow HB2.out (by omega) _⟩
    rw [HR.out]
    exact HV.out.keep (below_setRow HB2.out (by omega) _)
end Go.Proofs.YtpmdjopojcgpeaaGreatDoor

/-
  The literal in (*Device).settle. (Written by gen_s1.py.)
-/
namespace Go.Proofs.YtpmdjopojcgpeaaGreatDoor
open Go.RowKit Go.Maps Go.ChangeMaps

theorem wrap_nat {n : Nat} (h : n ≤ 1073741825) : IntKind.i64.wrap ((n : Int) + 1) = (n : Int) + 1 := by
  rw [IntKind.wrap_i64]
  omega
theorem Dr.lsf {w : World} {F : Nat → Prop} {s : Dst} {X : Dx} (h : Dr w F s X) : ∃ a c, X.ls = .slice a s.tm c := by
  obtain ⟨xs, q⟩ := h.lo
  exact own_slice q
/-- has the access on its way turned what stands under k? -/
def turnd (S : List Sty) (t : Nat) : Bool := !(undr S t).same (undr S ((t : Int) + 1))
set_option maxRecDepth 100000 in
set_option maxHeartbeats 3200000 in
theorem settle1_any {w : World} {F : Nat → Prop} {g bx : Nat} {s : Dst} {X : Dx} (hd : Db w g (X.dvf s)) (h : Dr w F s X) (hN : X.N ≤ 1073741824) {k : List Nat} (hk : IsH k) (hbx : w.cell? ⟨bx, 0, none⟩ = some (.pointer (some ⟨g, 0, none⟩))) :
    Calls Tryz.prog 171 #[.agg (bv k).toArray, .pointer (some ⟨bx, 0, none⟩)] w fun e w' => e = .returned (.bool (turnd (s.sta k) s.tm)) ∧ Below w.heap.size w w' := by
  have HW : Hid (∀ u, Below (w.alloc (.cells (bv k).toArray 38)).heap.size (w.alloc (.cells (bv k).toArray 38)) u → Db u g (X.dvf s) ∧ Dr u F s X ∧ u.rangeAt w.heap.size 0 (bv k) ∧ u.cell? ⟨bx, 0, none⟩ = some (.pointer (some ⟨g, 0, none⟩)) ∧ Below w.heap.size w u) := fun u b2 => by
    have b1 : Below w.heap.size w (w.alloc (.cells (bv k).toArray 38)) := (Below.refl _ _).alloc (Nat.le_refl _) _
    have b := ch b1 b2
    exact ⟨hd.keep b, h.keep b, rng_keep (rng_new w _ _) b2, (b.cell (World.block_lt_of_cell? _ _ hbx)).trans hbx, b⟩
  have HK : Hid (IsH k) := hk
  obtain ⟨la, lc, el⟩ := h.lsf
  have HL : Hid (X.ls = .slice la s.tm lc) := el
  have htm : s.tm ≤ 1073741824 := Nat.le_trans h.bd.1 hN
  have hwr := wrap_nat (n := s.tm) (by omega)
  obtain ⟨n, en⟩ : ∃ n, n = s.tm := ⟨_, rfl⟩
  have HN : Hid (n = s.tm) := en
  have HT : Hid (∀ u, Below (w.alloc (.cells (bv k).toArray 38)).heap.size (w.alloc (.cells (bv k).toArray 38)) u → Calls Tryz.prog 173 #[.pointer (some ⟨g, 0, none⟩)] u fun e w' => e = .returned (.int .i64 (n : Int)) ∧ w' = u) := fun u hu => by
    rw [en]
    exact time_any (HW.out u hu).1 HL.out
  have HUN : Hid (∀ u (t : Int), 0 ≤ t → t ≤ 1099511627774 → Below (w.alloc (.cells (bv k).toArray 38)).heap.size (w.alloc (.cells (bv k).toArray 38)) u → Calls Tryz.prog 172 #[.pointer (some ⟨g, 0, none⟩), .agg (bv k).toArray, .int .i64 t] u fun e w' => ∃ d, e = .returned (.agg #[.int .i64 (undr (s.sta k) t).since, d, .bool (undr (s.sta k) t).there]) ∧ Vb w' d (undr (s.sta k) t).data ∧ Below u.heap.size u w') := fun u t h0 h1 hu => under_any (HW.out u hu).1 (HW.out u hu).2.1 hN HK.out t h0 h1
  rw [← en] at hwr htm
  clear hd h en el
  go_enter Tryz.func171, Tryz.ntmps171
  go_wp2_with fail
  refine wp_region_held_drew (S := fun u => Below (w.alloc (.cells (bv k).toArray 38)).heap.size (w.alloc (.cells (bv k).toArray 38)) u) (by kernel_rfl) (by exact (Below.refl _ _).drew) ?_
  intro hS
  change wpAnyH _ _ _ _ _ 14 _ _ _
  refine wpAnyH_take (i := 0) (v := (.pointer (some ⟨g, 0, none⟩))) (by simp only [List.getElem?_toArray, List.getElem?_cons_zero]; rfl) (by kernel_rfl) (by kernel_rfl) (by kernel_rfl) (by exact fun _ _ _ h => h) (y_l_dev (by kernel_rfl) _ rfl _ _ rfl _ (fun u hs => (HW.out u hs).2.2.2.1)) hS ?_
  try simp only [Act.put, List.setIfInBounds_toArray, List.set_cons_zero, List.set_cons_succ]
  refine wpAnyH_take (i := 1) (v := (.agg (bv k).toArray)) (by simp only [List.getElem?_toArray, List.getElem?_cons_zero, List.getElem?_cons_succ]; rfl) (by kernel_rfl) (by kernel_rfl) (by kernel_rfl) (by exact fun _ _ _ h => h) (y_s_Hash (by kernel_rfl) _ rfl _ _ rfl k HK.out.1 (fun u hs => (HW.out u hs).2.2.1)) hS ?_
  try simp only [Act.put, List.setIfInBounds_toArray, List.set_cons_zero, List.set_cons_succ]
  refine wpAnyH_take (i := 2) (v := (.pointer (some ⟨g, 0, none⟩))) (by simp only [List.getElem?_toArray, List.getElem?_cons_zero, List.getElem?_cons_succ]; rfl) (by kernel_rfl) (by kernel_rfl) (by kernel_rfl) (by exact fun _ _ _ h => h) (y_l_dev (by kernel_rfl) _ rfl _ _ rfl _ (fun u hs => (HW.out u hs).2.2.2.1)) hS ?_
  try simp only [Act.put, List.setIfInBounds_toArray, List.set_cons_zero, List.set_cons_succ]
  refine wpAnyH_take (i := 5) (v := (.pointer (some ⟨g, 0, none⟩))) (by simp only [List.getElem?_toArray, List.getElem?_cons_zero, List.getElem?_cons_succ]; rfl) (by kernel_rfl) (by kernel_rfl) (by kernel_rfl) (by exact fun _ _ _ h => h) (y_l_dev (by kernel_rfl) _ rfl _ _ rfl _ (fun u hs => (HW.out u hs).2.2.2.1)) hS ?_
  try simp only [Act.put, List.setIfInBounds_toArray, List.set_cons_zero, List.set_cons_succ]
  refine wpAnyH_take (i := 6) (v := (.agg (bv k).toArray)) (by simp only [List.getElem?_toArray, List.getElem?_cons_zero, List.getElem?_cons_succ]; rfl) (by kernel_rfl) (by kernel_rfl) (by kernel_rfl) (by exact fun _ _ _ h => h) (y_s_Hash (by kernel_rfl) _ rfl _ _ rfl k HK.out.1 (fun u hs => (HW.out u hs).2.2.1)) hS ?_
  try simp only [Act.put, List.setIfInBounds_toArray, List.set_cons_zero, List.set_cons_succ]
  refine wpAnyH_take (i := 7) (v := (.pointer (some ⟨g, 0, none⟩))) (by simp only [List.getElem?_toArray, List.getElem?_cons_zero, List.getElem?_cons_succ]; rfl) (by kernel_rfl) (by kernel_rfl) (by kernel_rfl) (by exact fun _ _ _ h => h) (y_l_dev (by kernel_rfl) _ rfl _ _ rfl _ (fun u hs => (HW.out u hs).2.2.2.1)) hS ?_
  try simp only [Act.put, List.setIfInBounds_toArray, List.set_cons_zero, List.set_cons_succ]
  refine wpAnyH_ready (rs := [3]) (by kernel_rfl) (by simp) ?_
  refine AllReadyH.cons (by simp only [List.getElem?_toArray, List.getElem?_cons_zero, List.getElem?_cons_succ]; rfl) (fun K hK => ?_) AllReadyH.nil
  go_simp
  refine (HT.out _ hS).mono ?_
  rintro _ u1 ⟨rfl, hw⟩
  rw [hw]
  clear hw u1
  refine hK.out _ _ hS (fun hS => ?_)
  clear hK K
  try simp only [Act.put, List.setIfInBounds_toArray, List.set_cons_zero, List.set_cons_succ]
  refine wpAnyH_ready (rs := [4]) (by kernel_rfl) (by simp) ?_
  refine AllReadyH.cons (by simp only [List.getElem?_toArray, List.getElem?_cons_zero, List.getElem?_cons_succ]; rfl) (fun K hK => ?_) AllReadyH.nil
  go_simp
  refine (HUN.out _ (n : Int) (by omega) (by omega) hS).mono ?_
  rintro _ u2 ⟨d1, rfl, hvd1, hb⟩
  replace hS := hS.trans (hb.mono hS.size)
  clear hb
  refine hK.out _ _ hS (fun hS => ?_)
  clear hK K
  try simp only [Act.put, List.setIfInBounds_toArray, List.set_cons_zero, List.set_cons_succ]
  refine wpAnyH_ready (rs := [8]) (by kernel_rfl) (by simp) ?_
  refine AllReadyH.cons (by simp only [List.getElem?_toArray, List.getElem?_cons_zero, List.getElem?_cons_succ]; rfl) (fun K hK => ?_) AllReadyH.nil
  go_simp
  refine (HT.out _ hS).mono ?_
  rintro _ u3 ⟨rfl, hw⟩
  rw [hw]
  clear hw u3
  refine hK.out _ _ hS (fun hS => ?_)
  clear hK K
  try simp only [Act.put, List.setIfInBounds_toArray, List.set_cons_zero, List.set_cons_succ]
  refine wpAnyH_take (i := 9) (v := (.int .i64 ((n : Int) + 1))) (by simp only [List.getElem?_toArray, List.getElem?_cons_zero, List.getElem?_cons_succ]; rfl) (by kernel_rfl) (by kernel_rfl) (by kernel_rfl) (by exact fun _ _ _ h => h) (y_addIr (by kernel_rfl) _ _ rfl _ _ _ rfl rfl hwr) hS ?_
  try simp only [Act.put, List.setIfInBounds_toArray, List.set_cons_zero, List.set_cons_succ]
  refine wpAnyH_ready (rs := [10]) (by kernel_rfl) (by simp) ?_
  refine AllReadyH.cons (by simp only [List.getElem?_toArray, List.getElem?_cons_zero, List.getElem?_cons_succ]; rfl) (fun K hK => ?_) AllReadyH.nil
  go_simp
  refine (HUN.out _ ((n : Int) + 1) (by omega) (by omega) hS).mono ?_
  rintro _ u4 ⟨d2, rfl, hvd2, hb⟩
  replace hvd1 := hvd1.keep hb
  replace hS := hS.trans (hb.mono hS.size)
  clear hb
  refine hK.out _ _ hS (fun hS => ?_)
  clear hK K
  try simp only [Act.put, List.setIfInBounds_toArray, List.set_cons_zero, List.set_cons_succ]
  refine wpAnyH_ready (rs := [11]) (by kernel_rfl) (by simp) ?_
  refine AllReadyH.cons (by simp only [List.getElem?_toArray, List.getElem?_cons_zero, List.getElem?_cons_succ]; rfl) (fun K hK => ?_) AllReadyH.nil
  go_simp
  refine (ssame_any hvd1 hvd2).mono ?_
  rintro _ u5 ⟨rfl, hb⟩
  replace hS := hS.trans (hb.mono hS.size)
  clear hb
  refine hK.out _ _ hS (fun hS => ?_)
  clear hK K
  try simp only [Act.put, List.setIfInBounds_toArray, List.set_cons_zero, List.set_cons_succ]
  refine wpAnyH_take (i := 12) (v := (.bool (!((undr (s.sta k) (n : Int)).same (undr (s.sta k) ((n : Int) + 1)))))) (by simp only [List.getElem?_toArray, List.getElem?_cons_zero, List.getElem?_cons_succ]; rfl) (by kernel_rfl) (by kernel_rfl) (by kernel_rfl) (by exact fun _ _ _ h => h) (y_not (by kernel_rfl) _ rfl _ rfl) hS ?_
  try simp only [Act.put, List.setIfInBounds_toArray, List.set_cons_zero, List.set_cons_succ]
  refine wpAnyH_take (i := 13) (v := (.bool (!((undr (s.sta k) (n : Int)).same (undr (s.sta k) ((n : Int) + 1)))))) (by simp only [List.getElem?_toArray, List.getElem?_cons_zero, List.getElem?_cons_succ]; rfl) (by kernel_rfl) (by kernel_rfl) (by kernel_rfl) (by exact fun _ _ _ h => h) (y_assign (by kernel_rfl) _ rfl _ rfl) hS ?_
  try simp only [Act.put, List.setIfInBounds_toArray, List.set_cons_zero, List.set_cons_succ]
  refine wpAnyH_done (by kernel_rfl) ?_ _
  have HF : Hid (Below w.heap.size w u5) := (HW.out _ hS).2.2.2.2
  clear hS HW HT HUN hvd1 hvd2
  go_wp2_with fail
  go_ret
  exact ⟨by rw [← HN.out]; rfl, HF.out⟩
end Go.Proofs.YtpmdjopojcgpeaaGreatDoor

/-
  slices.IndexFunc, slices.ContainsFunc of what was touched.
-/
namespace Go.Proofs.YtpmdjopojcgpeaaGreatDoor
open Go.RowKit Go.Maps Go.ChangeMaps

theorem hcs_at : ∀ (l : List (List Nat)) (i : Nat) (k : List Nat), (∀ x ∈ l, x.length = 32) → l[i]? = some k → ∀ (j : Nat) (v : Value), (bv k)[j]? = some v → (hcs l)[i * 32 + j]? = some v
  | x :: l, 0, k, hl, h, j, v, hv => by
    simp at h
    subst h
    simp only [hcs, Nat.zero_mul, Nat.zero_add]
    rw [List.getElem?_append_left (List.getElem?_eq_some_iff.1 hv).1]
    exact hv
  | x :: l, i + 1, k, hl, h, j, v, hv => by
    have := hcs_at l i k (fun y hy => hl y (by simp [hy])) (by simpa using h) j v hv
    simp only [hcs]
    have e : (bv x).length = 32 := by rw [bv_len]; exact hl x (by simp)
    rw [List.getElem?_append_right (by rw [e]; omega), e, show (i + 1) * 32 + j - 32 = i * 32 + j by omega]
    exact this
theorem Dr.tcf' {w : World} {F : Nat → Prop} {s : Dst} {X : Dx} (h : Dr w F s X) : ∃ a b c, X.tc = .slice a s.tch.length c ∧ (0 < s.tch.length → a = some ⟨b, 0, none⟩) ∧ s.tch.length ≤ c ∧ ∀ (i : Nat) (k : List Nat), s.tch[i]? = some k → w.rangeAt b (i * 32) (bv k) := by
  rcases h.tc.2 with ⟨e, h0⟩ | ⟨g, cap, cur, e, hB, hg, h1, h2, h3, h4⟩
  · exact ⟨none, 0, 0, by rw [e, h0], fun q => by omega, by omega, fun i x hx => by have := (List.getElem?_eq_some_iff.1 hx).1; omega⟩
  · refine ⟨_, g, cap, e, fun _ => rfl, h1, fun i k hk j v hv => ?_⟩
    have := World.ownsRow.cells h.tc (g := g) (by rw [e]; rfl) (i * 32 + j) v (hcs_at _ i k (fun x hx => (h.key x hx).1) hk j v hv)
    rw [add_flat] at this
    exact this
/-- has the access turned what stands under one of the keys? -/
def anyT (s : Dst) : Bool := s.tch.any (fun k => turnd (s.sta k) s.tm)
theorem any_false {α : Type} {p : α → Bool} {l : List α} (h : ∀ (i : Nat) (x : α), i < l.length → l[i]? = some x → p x = false) : l.any p = false := by
  rw [List.any_eq_false]
  intro x hx
  obtain ⟨i, hi, e⟩ := List.getElem_of_mem hx
  have := h i x hi (by rw [← e]; exact List.getElem?_eq_getElem hi)
  simp [this]
set_option maxRecDepth 100000 in
set_option maxHeartbeats 3200000 in
theorem indexf_any {w : World} {F : Nat → Prop} {g bx : Nat} {s : Dst} {X : Dx} (hd : Db w g (X.dvf s)) (h : Dr w F s X) (hN : X.N ≤ 1073741824) (hbx : w.cell? ⟨bx, 0, none⟩ = some (.pointer (some ⟨g, 0, none⟩))) :
    Calls Tryz.prog 124 #[X.tc, .func (.func 171) #[] #[.pointer (some ⟨bx, 0, none⟩)]] w fun e w' => ∃ r : Int, e = .returned (.int .i64 r) ∧ decide (0 ≤ r) = anyT s ∧ -1 ≤ r ∧ r ≤ 1073741824 ∧ Below w.heap.size w w' := by
  have HW : Hid (∀ u, Below w.heap.size w u → ∀ k, IsH k → Calls Tryz.prog 171 #[.agg (bv k).toArray, .pointer (some ⟨bx, 0, none⟩)] u fun e w' => e = .returned (.bool (turnd (s.sta k) s.tm)) ∧ Below u.heap.size u w') := fun u b k hk =>
    settle1_any (hd.keep b) (h.keep b) hN hk ((b.cell (World.block_lt_of_cell? _ _ hbx)).trans hbx)
  obtain ⟨a, b, c, e, ha, hc, hr⟩ := h.tcf'
  have HR : Hid ((0 < s.tch.length → a = some ⟨b, 0, none⟩) ∧ ∀ (i : Nat) (k : List Nat), s.tch[i]? = some k → w.rangeAt b (i * 32) (bv k)) := ⟨ha, hr⟩
  have HK : Hid (∀ k ∈ s.tch, IsH k) := h.key
  have hn : s.tch.length ≤ 1073741824 := Nat.le_trans h.bd.2.2 hN
  obtain ⟨n, en⟩ : ∃ n, n = s.tch.length := ⟨_, rfl⟩
  have HN : Hid (n = s.tch.length) := en
  rw [e]
  rw [← en] at HR hn hc ⊢
  clear hd h e ha hr en hbx
  go_enter Tryz.func124, Tryz.ntmps124
  go_wp2_with fail
  go_loopg [8] n (fun m ii wr => ∃ i : Nat, i ≤ n ∧ m = n - i ∧ ii = .int .i64 i ∧ (∀ (j : Nat) (x : List Nat), j < i → s.tch[j]? = some x → turnd (s.sta x) s.tm = false) ∧ Below w.heap.size w wr)
  case atStart => exact ⟨0, Nat.zero_le _, rfl, rfl, fun j x hj => absurd hj (by omega), Below.refl _ _⟩
  case round =>
    obtain ⟨i, hin, rfl, rfl, hno, hb⟩ := hrel
    have HO : Hid ((∀ (j : Nat) (x : List Nat), j < i → s.tch[j]? = some x → turnd (s.sta x) s.tm = false) ∧ Below w.heap.size w wr) := ⟨hno, hb⟩
    clear hno hb
    by_cases hlt : i < n
    · have i1 : (i : Int) < (n : Int) := by omega
      have i0 : (0 : Int) ≤ (i : Int) := by omega
      obtain rfl := HR.out.1 (by omega)
      obtain ⟨k, hk⟩ : ∃ k, s.tch[i]? = some k := ⟨_, List.getElem?_eq_getElem (by have := HN.out; omega)⟩
      have HKK : Hid (IsH k ∧ s.tch[i]? = some k) := ⟨HK.out k (List.mem_of_getElem? hk), hk⟩
      have HX : Hid (wr.rangeAt b (i * 32) (bv k)) := rng_keep (HR.out.2 i k hk) HO.out.2
      have HI : Hid ((Tryz.prog.info? 38).map (·.size) = some (bv k).length) := by rw [bv_len, HKK.out.1.1]; exact i33
      clear hk
      go_wp2_with (refine wpList_load_mid_g (by kernel_rfl) 38 _ (by rfl) b (i * 32) (by rfl) (bv k) _ HX.out Tryz.underlying38 rfl HI.out ?_)
      refine (HW.out wr HO.out.2 k HKK.out.1).mono ?_
      rintro e w1 ⟨rfl, hb1⟩
      have HB1 : Hid (Below w.heap.size w w1) := ch HO.out.2 hb1
      clear hb1
      obtain ⟨q, hq⟩ : ∃ q, q = turnd (s.sta k) s.tm := ⟨_, rfl⟩
      have HQ : Hid (q = turnd (s.sta k) s.tm) := hq
      rw [← hq]
      clear hq
      cases q with
      | true =>
        have HT : Hid (anyT s = true) := List.any_eq_true.2 ⟨k, List.mem_of_getElem? HKK.out.2, HQ.out.symm⟩
        go_wp2_with fail
        go_ret
        exact ⟨(i : Int), rfl, by rw [HT.out]; exact decide_eq_true (by omega), by omega, by omega, HB1.out⟩
      | false =>
        go_wp2_with fail
        go_roundg (n - (i + 1))
        case measure => omega
        case rel =>
          refine ⟨i + 1, by omega, rfl, by go_num, fun j x hj hx => ?_, HB1.out⟩
          rcases Nat.lt_or_ge j i with q | q
          · exact HO.out.1 j x q hx
          · obtain rfl : j = i := by omega
            rw [HKK.out.2] at hx
            rw [← Option.some.inj hx]
            exact HQ.out.symm
    · have i1 : ¬ (i : Int) < (n : Int) := by omega
      have HT : Hid (anyT s = false) := any_false (fun j x hj hx => HO.out.1 j x (by have := HN.out; omega) hx)
      go_wp2_with fail
      go_ret
      exact ⟨-1, rfl, by rw [HT.out]; exact decide_eq_false (by omega), by omega, by omega, HO.out.2⟩
set_option maxRecDepth 100000 in
set_option maxHeartbeats 1600000 in
theorem contains_any {w : World} {F : Nat → Prop} {g bx : Nat} {s : Dst} {X : Dx} (hd : Db w g (X.dvf s)) (h : Dr w F s X) (hN : X.N ≤ 1073741824) (hbx : w.cell? ⟨bx, 0, none⟩ = some (.pointer (some ⟨g, 0, none⟩))) :
    Calls Tryz.prog 170 #[X.tc, .func (.func 171) #[] #[.pointer (some ⟨bx, 0, none⟩)]] w fun e w' => e = .returned (.bool (anyT s)) ∧ Below w.heap.size w w' := by
  have HK := indexf_any hd h hN hbx
  obtain ⟨a, b, c, e, _⟩ := h.tcf'
  rw [e] at HK ⊢
  have HK' : Hid (Calls Tryz.prog 124 #[.slice a s.tch.length c, .func (.func 171) #[] #[.pointer (some ⟨bx, 0, none⟩)]] w fun e w' => ∃ r : Int, e = .returned (.int .i64 r) ∧ decide (0 ≤ r) = anyT s ∧ -1 ≤ r ∧ r ≤ 1073741824 ∧ Below w.heap.size w w') := HK
  generalize s.tch.length = n at *
  clear hd h HK e
  go_enter Tryz.func170, Tryz.ntmps170
  go_wp2_with (go_at_call 124; refine HK'.out.mono ?_; rintro e w' ⟨r, rfl, hr, _, _, hb⟩; have HR : Hid (decide (0 ≤ r) = anyT s ∧ Below w.heap.size w w') := ⟨hr, hb⟩; clear hr hb HK')
  go_ret
  exact ⟨by rw [← HR.out.1]; rfl, HR.out.2⟩
end Go.Proofs.YtpmdjopojcgpeaaGreatDoor
