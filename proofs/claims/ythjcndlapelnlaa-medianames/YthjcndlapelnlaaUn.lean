/-
  (*Device).under. (Written by gen_un.py.)
-/
import Derived.Test.YthjcndlapelnlaaYt
namespace Go.Proofs.Ythjcndlapelnlaa
open Go.RowKit Go.Maps Go.ChangeMaps

/-- what stood there at a time -/
def undr (S : List Sty) (t : Int) : Sty := if ahd S (t + 1) = 0 then ⟨0, [], false⟩ else (S[ahd S (t + 1) - 1]?).getD ⟨0, [], false⟩
theorem stc_one (t : Int) (a : Option Addr) (n c : Nat) (b : Bool) : [Value.int .i64 t, .slice a n c, .bool b].toArray.all (·.oneCell') = true := by
  refine all_oneCell_toArray (fun x hx => ?_)
  simp only [List.mem_cons, List.not_mem_nil, or_false] at hx
  rcases hx with rfl | rfl | rfl <;> rfl
theorem zeroMs (w : World) : (zeroValue 94).run Try.prog w = .ok nilS w := zero_of_info (n := 1) (by kernel_rfl) w
theorem zeroMb (w : World) : (zeroValue 29).run Try.prog w = .ok nilS w := zero_of_info (n := 1) (by kernel_rfl) w
theorem zeroMv (w : World) : (zeroValue 60).run Try.prog w = .ok nilS w := zero_of_info (n := 1) (by kernel_rfl) w
theorem Dr.sts {w : World} {F : Nat → Prop} {s : Dst} {X : Dx} (h : Dr w F s X) (hN : X.N ≤ 1073741824) {k : List Nat} (hk : IsH k) : Sts w (X.V3 k) (s.sta k) := by
  obtain ⟨n, xs, own, ⟨rfl, ds, hl, rfl, hd⟩, hn⟩ := h.st.row k hk
  rcases own.2 with ⟨e, h0⟩ | ⟨g, cap, cur, e, hB, hg, h1, h2, h3, h4⟩
  · exact ⟨none, 0, 0, 0, by rw [e, h0], fun q => by omega, fun i x hx => by have := (List.getElem?_eq_some_iff.1 hx).1; omega, by omega, by omega⟩
  · refine ⟨_, g, 0, cap, e, fun _ => rfl, fun i x hx => ?_, h1, by omega⟩
    have hi : i < ds.length := by rw [hl]; exact (List.getElem?_eq_some_iff.1 hx).1
    refine ⟨ds[i], fun j v hv => ?_, (hd i _ x (List.getElem?_eq_getElem hi) hx).vb⟩
    have := World.ownsRow.cells own (g := g) (by rw [e]; rfl) (i * 3 + j) v (sts_at ds (s.sta k) i ds[i] x (List.getElem?_eq_getElem hi) hx j v hv)
    rw [add_flat] at this
    rw [Nat.zero_add]
    exact this
set_option maxRecDepth 100000 in
set_option maxHeartbeats 3200000 in
theorem under_any {w : World} {F : Nat → Prop} {g : Nat} {s : Dst} {X : Dx} (hd : Db w g (X.dvf s)) (h : Dr w F s X) (hN : X.N ≤ 1073741824) {k : List Nat} (hk : IsH k) (t : Int) (ht0 : 0 ≤ t) (ht1 : t ≤ 1099511627774) :
    Calls Try.prog 63 #[.pointer (some ⟨g, 0, none⟩), .agg (bv k).toArray, .int .i64 t] w fun e w' => ∃ d, e = .returned (.agg #[.int .i64 (undr (s.sta k) t).since, d, .bool (undr (s.sta k) t).there]) ∧ Vb w' d (undr (s.sta k) t).data ∧ Below w.heap.size w w' := by
  have HW : Hid (∀ u, Below (w.alloc (.cells (bv k).toArray 33)).heap.size (w.alloc (.cells (bv k).toArray 33)) u → Db u g (X.dvf s) ∧ Mh u X.m3 X.N X.D3 X.V3 ∧ u.rangeAt w.heap.size 0 (bv k) ∧ Sts u (X.V3 k) (s.sta k) ∧ Below w.heap.size w u) := fun u b2 => by
    have b1 : Below w.heap.size w (w.alloc (.cells (bv k).toArray 33)) := (Below.refl _ _).alloc (Nat.le_refl _) _
    have b := ch b1 b2
    exact ⟨hd.keep b, (h.keep b).st.mh, rng_keep (rng_new w _ _) b2, (h.sts hN hk).keep b, b⟩
  have HU : Hid (Up (s.sta k)) := (h.up k hk).1
  obtain ⟨va, vb, vo, vc, ev, hv1, hv2, hv3, hv4⟩ := h.sts hN hk
  obtain ⟨n, en⟩ : ∃ n, n = (s.sta k).length := ⟨_, rfl⟩
  rw [← en] at ev hv1 hv3 hv4
  have HN : Hid (n = (s.sta k).length ∧ X.V3 k = .slice va n vc) := ⟨en, ev⟩
  have HS : Hid (∀ u, Below (w.alloc (.cells (bv k).toArray 33)).heap.size (w.alloc (.cells (bv k).toArray 33)) u → Sts u (.slice va n vc) (s.sta k)) := fun u hu => by
    have := (HW.out u hu).2.2.2.1
    rw [ev] at this
    exact this
  have HC : Hid ((0 < n → va = some ⟨vb, vo, none⟩) ∧ ∀ (i : Nat) (x : Sty), (s.sta k)[i]? = some x → ∃ d, w.rangeAt vb (vo + i * 3) (stc x.since d x.there) ∧ Vb w d x.data) := ⟨hv1, hv2⟩
  have HK : Hid (IsH k) := hk
  have ha : wrap64 (t + 1) = t + 1 := by unfold wrap64; omega
  clear hd h ev en hv1 hv2
  go_enter Try.func63, Try.ntmps63
  go_wp2_with fail
  refine wp_region_held_drew (S := fun u => Below (w.alloc (.cells (bv k).toArray 33)).heap.size (w.alloc (.cells (bv k).toArray 33)) u) (by kernel_rfl) (by exact ((Below.refl _ _).alloc (Nat.le_refl _) _).drew) ?_
  intro hS
  change wpAnyH _ _ _ _ _ 7 _ _ _
  refine wpAnyH_take (i := 0) (v := (.pointer (some ⟨g, 0, none⟩))) (by simp only [List.getElem?_toArray, List.getElem?_cons_zero]; rfl) (by kernel_rfl) (by kernel_rfl) (by kernel_rfl) (by exact fun _ _ _ h => h) (y_move (by kernel_rfl) _ rfl _ rfl) hS ?_
  try simp only [Act.put, List.setIfInBounds_toArray, List.set_cons_zero, List.set_cons_succ]
  refine wpAnyH_take (i := 1) (v := (.pointer (some ⟨g, 0, none⟩))) (by simp only [List.getElem?_toArray, List.getElem?_cons_zero, List.getElem?_cons_succ]; rfl) (by kernel_rfl) (by kernel_rfl) (by kernel_rfl) (by exact fun _ _ _ h => h) (y_nil (by kernel_rfl) _ rfl _ rfl) hS ?_
  try simp only [Act.put, List.setIfInBounds_toArray, List.set_cons_zero, List.set_cons_succ]
  refine wpAnyH_take (i := 2) (v := (.pointer (some ⟨g, 0 + 41, none⟩))) (by simp only [List.getElem?_toArray, List.getElem?_cons_zero, List.getElem?_cons_succ]; rfl) (by kernel_rfl) (by kernel_rfl) (by kernel_rfl) (by exact fun _ _ _ h => h) (y_f_Dev9 (by kernel_rfl) _ rfl _ _ rfl) hS ?_
  try simp only [Act.put, List.setIfInBounds_toArray, List.set_cons_zero, List.set_cons_succ]
  refine wpAnyH_take (i := 3) (v := (.map (some X.m3))) (by simp only [List.getElem?_toArray, List.getElem?_cons_zero, List.getElem?_cons_succ]; rfl) (by kernel_rfl) (by kernel_rfl) (by kernel_rfl) (by exact fun _ _ _ h => h) (y_l_ms (by kernel_rfl) _ rfl _ _ rfl _ (fun u hs => ((HW.out u hs).1).at_.2.2.2.2.2.2.2.2.2.1)) hS ?_
  try simp only [Act.put, List.setIfInBounds_toArray, List.set_cons_zero, List.set_cons_succ]
  refine wpAnyH_take (i := 4) (v := (.agg (bv k).toArray)) (by simp only [List.getElem?_toArray, List.getElem?_cons_zero, List.getElem?_cons_succ]; rfl) (by kernel_rfl) (by kernel_rfl) (by kernel_rfl) (by exact fun _ _ _ h => h) (y_s_Hash (by kernel_rfl) _ rfl _ _ rfl k HK.out.1 (fun u hs => (HW.out u hs).2.2.1)) hS ?_
  try simp only [Act.put, List.setIfInBounds_toArray, List.set_cons_zero, List.set_cons_succ]
  refine wpAnyH_take (i := 5) (v := (.slice va n vc)) (by simp only [List.getElem?_toArray, List.getElem?_cons_zero, List.getElem?_cons_succ]; rfl) (by kernel_rfl) (by kernel_rfl) (by kernel_rfl) (by exact fun _ _ _ h => h) (y_look (by kernel_rfl) _ _ _ _ rfl _ _ _ rfl rfl (fun u hs => by rw [← HN.out.2]; exact (HW.out u hs).2.1.look Try.underlying70 zeroMs HK.out)) hS ?_
  try simp only [Act.put, List.setIfInBounds_toArray, List.set_cons_zero, List.set_cons_succ]
  refine wpAnyH_take (i := 6) (v := (.slice va n vc)) (by simp only [List.getElem?_toArray, List.getElem?_cons_zero, List.getElem?_cons_succ]; rfl) (by kernel_rfl) (by kernel_rfl) (by kernel_rfl) (by exact fun _ _ _ h => h) (y_assign (by kernel_rfl) _ rfl _ rfl) hS ?_
  try simp only [Act.put, List.setIfInBounds_toArray, List.set_cons_zero, List.set_cons_succ]
  refine wpAnyH_done (by kernel_rfl) ?_ _
  have HB0 : Hid (Below w.heap.size w ((w.alloc (.cells (bv k).toArray 33)).alloc (.cells #[.int .i64 0, .slice none 0 0, .bool false] 93)).drew) := (HW.out _ hS).2.2.2.2
  have HS1 : Hid (Sts ((w.alloc (.cells (bv k).toArray 33)).alloc (.cells #[.int .i64 0, .slice none 0 0, .bool false] 93)).drew (.slice va n vc) (s.sta k)) := HS.out _ hS
  have hblk : ((w.alloc (.cells (bv k).toArray 33)).alloc (.cells #[.int .i64 0, .slice none 0 0, .bool false] 93)).drew.heap[w.heap.size + 1]? = some (.cells #[.int .i64 0, .slice none 0 0, .bool false] 93 (0, 0)) := by
    have := heap_alloc_new (w.alloc (.cells (bv k).toArray 33)) (.cells #[.int .i64 0, .slice none 0 0, .bool false] 93)
    simpa [World.drew] using this
  have hsz : w.heap.size + 1 < ((w.alloc (.cells (bv k).toArray 33)).alloc (.cells #[.int .i64 0, .slice none 0 0, .bool false] 93)).drew.heap.size := by simp [World.drew]
  clear hS HW HS
  generalize ((w.alloc (.cells (bv k).toArray 33)).alloc (.cells #[.int .i64 0, .slice none 0 0, .bool false] 93)).drew = w1 at HB0 HS1 hblk hsz ⊢
  have HBLK : Hid (w1.heap[w.heap.size + 1]? = some (.cells #[.int .i64 0, .slice none 0 0, .bool false] 93 (0, 0))) := hblk
  clear hblk
  go_wp2_with (go_at_call 81; refine (bsearch_any HS1.out HU.out (t + 1) (by omega) (by omega)).mono ?_)
  rintro e w2 ⟨⟨bv2, rfl⟩, hb2⟩
  have HB2 : Hid (Below w.heap.size w w2) := HB0.out.trans (hb2.mono HB0.out.size)
  have HG2 : Hid (w2.heap[w.heap.size + 1]? = some (.cells #[.int .i64 0, .slice none 0 0, .bool false] 93 (0, 0))) := (hb2.block _ hsz).trans HBLK.out
  obtain ⟨m, em⟩ : ∃ m, m = ahd (s.sta k) (t + 1) := ⟨_, rfl⟩
  have hm := ahd_le (s.sta k) (t + 1)
  rw [← em, ← HN.out.1] at hm
  rw [← em]
  clear hb2 HB0 HS1 HBLK hsz
  by_cases h0 : m = 0
  · subst h0
    have HR : Hid (undr (s.sta k) t = ⟨0, [], false⟩) := by
      show undr (s.sta k) t = _
      unfold undr
      rw [if_pos em.symm]
    clear em
    go_wp2_with (refine wpList_stB (by kernel_rfl) 93 _ _ (by rfl) (w.heap.size + 1) [.int .i64 0, .slice none 0 0, .bool false] [.int .i64 0, .slice none 0 0, .bool false] i93 rfl (stc_one _ _ _ _ _) HG2.out (by rfl) (by rfl) ?_)
    have hr := setRow_heap' (cs' := #[.int .i64 0, .slice none 0 0, .bool false]) HG2.out
    refine bodyPost_ret (res1 rfl _ _ (w.heap.size + 1) _ rfl (run_loadVar_mid _ (w.heap.size + 1) 0 93 [.int .i64 0, .slice none 0 0, .bool false] _ (rng_row (cs := [.int .i64 0, .slice none 0 0, .bool false]) hr) Try.underlying93 rfl i93)) rfl ⟨.slice none 0 0, by rw [HR.out], by rw [HR.out]; exact ⟨none, 0, 0, 0, rfl, ⟨fun q => absurd q (by simp), fun i hi => absurd hi (by simp), fun i hi => absurd hi (by simp), by simp⟩, by simp, fun _ => rfl, by simp⟩, below_setRow HB2.out (by omega) _⟩
  · obtain ⟨⟨xt, xd, xb⟩, hx⟩ : ∃ x, (s.sta k)[m - 1]? = some x := ⟨_, List.getElem?_eq_getElem (by have := HN.out.1; omega)⟩
    have HR : Hid (undr (s.sta k) t = ⟨xt, xd, xb⟩) := by
      show undr (s.sta k) t = _
      unfold undr
      rw [← em, if_neg h0, hx]
      rfl
    obtain ⟨d, hr, hvd⟩ := HC.out.2 _ _ hx
    obtain rfl := HC.out.1 (by omega)
    have HV : Hid (Vb w d xd) := hvd
    have hr2 := rng_keep hr HB2.out
    have r0 : w2.cell? ⟨vb, vo + (m - 1) * 3, none⟩ = some (.int .i64 xt) := (rng_head hr2).1
    have r1 : w2.cell? ⟨vb, vo + (m - 1) * 3 + 1, none⟩ = some d := (rng_head (rng_head hr2).2).1
    have r2 : w2.cell? ⟨vb, vo + (m - 1) * 3 + 2, none⟩ = some (.bool xb) := (rng_head (rng_head (rng_head hr2).2).2).1
    have e1 : ((m : Int) == 0) = false := by
      have : ¬ (m : Int) = 0 := by omega
      simpa using this
    have e2 : (m : Int) - 1 = ((m - 1 : Nat) : Int) := by omega
    have e3 : wrap64 ((m - 1 : Nat) : Int) = ((m - 1 : Nat) : Int) := by unfold wrap64; omega
    obtain ⟨q, hq⟩ : ∃ q : Nat, q = m - 1 := ⟨_, rfl⟩
    rw [← hq] at r0 r1 r2 e2 e3
    have i0 : (0 : Int) ≤ (q : Int) := by omega
    have i1 : (q : Int) < (n : Int) := by omega
    obtain ⟨da, dn, dc, ed⟩ : ∃ a n c, d = .slice a n c := by
      obtain ⟨a, bb, off, c, e, _⟩ := hvd
      exact ⟨a, _, c, e⟩
    subst ed
    clear hr hr2 hx hvd h0 hm em hq
    go_wp2_with (refine wpList_stB (by kernel_rfl) 93 _ _ (by rfl) (w.heap.size + 1) [.int .i64 xt, .slice da dn dc, .bool xb] [.int .i64 0, .slice none 0 0, .bool false] i93 rfl (stc_one _ _ _ _ _) HG2.out (by rfl) (by rfl) ?_)
    have hr := setRow_heap' (cs' := #[.int .i64 xt, .slice da dn dc, .bool xb]) HG2.out
    refine bodyPost_ret (res1 rfl _ _ (w.heap.size + 1) _ rfl (run_loadVar_mid _ (w.heap.size + 1) 0 93 [.int .i64 xt, .slice da dn dc, .bool xb] _ (rng_row (cs := [.int .i64 xt, .slice da dn dc, .bool xb]) hr) Try.underlying93 rfl i93)) rfl ⟨.slice da dn dc, by rw [HR.out], ?_, below_setRow HB2.out (by omega) _⟩
    rw [HR.out]
    exact HV.out.keep (below_setRow HB2.out (by omega) _)
end Go.Proofs.Ythjcndlapelnlaa
