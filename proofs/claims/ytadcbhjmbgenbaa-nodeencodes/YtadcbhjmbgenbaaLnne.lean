import Derived.Test.YtadcbhjmbgenbaaLnoe
/-
  cairnlaw07: nodeOf.
-/
namespace Go.Proofs.Ytadcbhjmbgenbaa
open Go.RowKit

/-- a node whose lists are copies with marks behind them -/
structure Nry (P : Nat → Prop) (w : World) (n : Nd) (u : Nv) : Prop where
  W : n.W
  p : Ry P w u.p n.path
  v : Ry P w u.v n.val
  x : Ry P w u.x n.next.b
  k : ∀ {i : Nat} {r : Rf}, n.kids[i]? = some r → Ry P w (u.k i) r.b
theorem Nry.nin {P : Nat → Prop} {w : World} {n : Nd} {u : Nv} (h : Nry P w n u) : Nin w n u := ⟨h.W, h.p.vf.vb, h.v.vf.vb, h.x.vf.vb, fun hr => (h.k hr).vf.vb⟩
theorem Nry.same {P : Nat → Prop} {w w' : World} {n : Nd} {u : Nv} (h : Nry P w n u) (k : ∀ i, P i → i < w.heap.size → w'.heap[i]? = w.heap[i]?) : Nry P w' n u := ⟨h.W, h.p.same k, h.v.same k, h.x.same k, fun hr => (h.k hr).same k⟩
theorem Nry.below {P : Nat → Prop} {w w' : World} {n : Nd} {u : Nv} (h : Nry P w n u) (k : Below w.heap.size w w') : Nry P w' n u := h.same (fun i _ hi => k.block i hi)
theorem rng_p {w : World} {g : Nat} {n : Nd} {u : Nv} (h : w.rangeAt g 0 (nc n u)) (ht : w.there g 0 582) (v : Value) : (w.setCells g 1 [v]).rangeAt g 0 (nc n ⟨v, u.v, u.x, u.k⟩) := by
  have e : ∀ v, nc n ⟨v, u.v, u.x, u.k⟩ = [.int .i64 n.k] ++ ([v] ++ (u.v :: .bool n.full :: (rcs n.next u.x ++ kcs n.kids u.k))) := fun v => rfl
  have h : w.rangeAt g 0 (nc n ⟨u.p, u.v, u.x, u.k⟩) := h
  rw [e] at h ⊢
  exact rng_app (World.rangeAt_setCells_apart (rng_left h) g 1 _ (Or.inr (Or.inl (by simp)))) (rng_app (World.rangeAt_setCells_same _ _ _ _ (there_sub ht (by simp))) (World.rangeAt_setCells_apart (rng_right (rng_right h)) g 1 _ (Or.inr (Or.inr (by simp)))))
theorem rng_vv {w : World} {g : Nat} {n : Nd} {u : Nv} (h : w.rangeAt g 0 (nc n u)) (ht : w.there g 0 582) (v : Value) : (w.setCells g 2 [v]).rangeAt g 0 (nc n ⟨u.p, v, u.x, u.k⟩) := by
  have e : ∀ v, nc n ⟨u.p, v, u.x, u.k⟩ = [.int .i64 n.k, u.p] ++ ([v] ++ (.bool n.full :: (rcs n.next u.x ++ kcs n.kids u.k))) := fun v => rfl
  have h : w.rangeAt g 0 (nc n ⟨u.p, u.v, u.x, u.k⟩) := h
  rw [e] at h ⊢
  exact rng_app (World.rangeAt_setCells_apart (rng_left h) g 2 _ (Or.inr (Or.inl (by simp)))) (rng_app (World.rangeAt_setCells_same _ _ _ _ (there_sub ht (by simp))) (World.rangeAt_setCells_apart (rng_right (rng_right h)) g 2 _ (Or.inr (Or.inr (by simp)))))
theorem rng_xx {w : World} {g : Nat} {n : Nd} {u : Nv} (hW : n.W) (h : w.rangeAt g 0 (nc n u)) (ht : w.there g 0 582) (v : Value) : (w.setCells g 4 (rcs n.next v)).rangeAt g 0 (nc n ⟨u.p, u.v, v, u.k⟩) := by
  have e : ∀ v, nc n ⟨u.p, u.v, v, u.k⟩ = [.int .i64 n.k, u.p, u.v, .bool n.full] ++ (rcs n.next v ++ kcs n.kids u.k) := fun v => rfl
  have h : w.rangeAt g 0 (nc n ⟨u.p, u.v, u.x, u.k⟩) := h
  rw [e] at h ⊢
  have h3 := rng_right (rng_right h)
  rw [rcs_len hW.next.1] at h3
  refine rng_app (World.rangeAt_setCells_apart (rng_left h) g 4 _ (Or.inr (Or.inl (by simp)))) (rng_app (World.rangeAt_setCells_same _ _ _ _ (there_sub ht (by rw [rcs_len hW.next.1]; simp))) ?_)
  rw [rcs_len hW.next.1]
  exact World.rangeAt_setCells_apart h3 g 4 _ (Or.inr (Or.inr (by rw [rcs_len hW.next.1]; simp)))
/-- the law's copy of a node, on its way -/
structure Bxn (w wr : World) (n : Nd) (u : Nv) : Prop where
  rng : wr.rangeAt w.heap.size 0 (nc n u)
  thr : wr.there w.heap.size 0 582
  g1 : wr.heap[w.heap.size + 1]? = some (.cells (nc nz uz).toArray 29 (0, 0))
  below : Below w.heap.size w wr
  hs : w.heap.size + 2 ≤ wr.heap.size
theorem Bxn.keep {w wr w' : World} {n : Nd} {u : Nv} (h : Bxn w wr n u) (b : Below wr.heap.size wr w') : Bxn w w' n u :=
  ⟨rng_same h.rng (b.block _ (by have := h.hs; omega)), there_same h.thr (b.block _ (by have := h.hs; omega)), (b.block _ (by have := h.hs; omega)).trans h.g1, ch h.below b, Nat.le_trans h.hs b.size⟩
theorem Bxn.set {w wr : World} {n : Nd} {u u' : Nv} (h : Bxn w wr n u) (o : Nat) (vs : List Value) (hr : (wr.setCells w.heap.size o vs).rangeAt w.heap.size 0 (nc n u')) : Bxn w (wr.setCells w.heap.size o vs) n u' := by
  have tt := turn_setCells (F := fun q => q = w.heap.size) rfl vs o wr
  have hz := size_setCells w.heap.size vs o wr
  have hs := h.hs
  exact ⟨hr, World.there_setCells h.thr _ _ _, (tt.block _ (by omega) (by omega)).trans h.g1, h.below.trans (tt.below (fun q e => by omega) (by omega)), by rw [hz]; exact hs⟩
theorem Ry.set {w wr : World} {v : Value} {s : List Nat} (h : Ry (fun q => w.heap.size + 2 ≤ q) wr v s) (o : Nat) (vs : List Value) : Ry (fun q => w.heap.size + 2 ≤ q) (wr.setCells w.heap.size o vs) v s :=
  h.same (fun i hi hl => (turn_setCells (F := fun q => q = w.heap.size) rfl vs o wr).block i hl (by omega))
theorem Bxn.cell {w wr : World} {n : Nd} {u : Nv} (h : Bxn w wr n u) (hW : n.W) : wr.cell? ⟨w.heap.size, 1, none⟩ = some u.p ∧ wr.cell? ⟨w.heap.size, 2, none⟩ = some u.v ∧ wr.rangeAt w.heap.size 4 (rcs n.next u.x) ∧ wr.frozen? ⟨w.heap.size, 1, none⟩ = false ∧ wr.frozen? ⟨w.heap.size, 2, none⟩ = false := by
  have nb := nb_of hW h.rng
  have t1 := (h.thr 1 (by omega)).2
  have t2 := (h.thr 2 (by omega)).2
  rw [Nat.zero_add] at t1 t2
  exact ⟨nb.p, nb.v, nb.x, t1, t2⟩
/-- the kids so far -/
structure Lk (w wr : World) (n : Nd) (u u' : Nv) (i : Nat) : Prop where
  bx : Bxn w wr n u'
  p : Ry (fun q => w.heap.size + 2 ≤ q) wr u'.p n.path
  v : Ry (fun q => w.heap.size + 2 ≤ q) wr u'.v n.val
  x : Ry (fun q => w.heap.size + 2 ≤ q) wr u'.x n.next.b
  k : ∀ (j : Nat) (r : Rf), j < i → n.kids[j]? = some r → Ry (fun q => w.heap.size + 2 ≤ q) wr (u'.k j) r.b
  ko : ∀ j, i ≤ j → u'.k j = u.k j
theorem Lk.next {w wr w3 : World} {n : Nd} {u u' : Nv} {i : Nat} {r : Rf} {v : Value} (h : Lk w wr n u u' i) (hW : n.W) (hi : i < 16) (hr : n.kids[i]? = some r) (b3 : Below wr.heap.size wr w3) (hv : Ry (fun q => wr.heap.size ≤ q) w3 v r.b) :
    Lk w (w3.setCells w.heap.size (38 + i * 34) (rcs r v)) n u ⟨u'.p, u'.v, u'.x, fun m => if m = i then v else u'.k m⟩ (i + 1) := by
  have bx3 := h.bx.keep b3
  have hs := h.bx.hs
  have hrW := hW.kid r (List.mem_of_getElem? hr)
  have hset : n.kids.set i r = n.kids := by
    apply List.ext_getElem?
    intro j
    rw [List.getElem?_set]
    split
    · rename_i e
      subst e
      rw [hr]
      split
      · rfl
      · rename_i q
        have := (List.getElem?_eq_some_iff.1 hr).1
        omega
    · rfl
  have rg := rng_set hW bx3.rng hi (r := r) (v := v) hrW.1 bx3.thr
  rw [hset] at rg
  refine ⟨bx3.set _ _ rg, (h.p.below b3).set _ _, (h.v.below b3).set _ _, (h.x.below b3).set _ _, fun j q hj hq => ?_, fun j hj => ?_⟩
  · by_cases e : j = i
    · subst e
      rw [hr] at hq
      cases hq
      simp only [if_true]
      exact (hv.mono (fun q hq _ => by omega)).set _ _
    · simp only [if_neg e]
      exact ((h.k j q (by omega) hq).below b3).set _ _
  · simp only [if_neg (show ¬ j = i by omega)]
    exact h.ko j (by omega)
set_option maxRecDepth 100000 in
set_option maxHeartbeats 3200000 in
theorem lnodeOf_any {w : World} {n : Nd} {u : Nv} (h : Nin w n u) : Calls Try.prog 23 #[.agg (nc n u).toArray] w fun e w' => ∃ u', e = .returned (.agg (nc n u').toArray) ∧ Nry (fun q => w.heap.size + 2 ≤ q) w' n u' ∧ Below w.heap.size w w' := by
  have hz := zv29
  have hW := h.W
  have bx0 : Bxn w ((w.alloc (.cells (nc n u).toArray 29)).alloc (.cells (nc nz uz).toArray 29)) n u := by
    have g0 : ((w.alloc (.cells (nc n u).toArray 29)).alloc (.cells (nc nz uz).toArray 29)).heap[w.heap.size]? = some (.cells (nc n u).toArray 29 (0, 0)) := by
      rw [heap_alloc_old _ _ (by simp)]
      exact heap_alloc_new _ _
    refine ⟨rng_row g0, there_row g0 582 (by rw [nc_len hW]; omega), ?_, (below_alloc _ _).alloc (by simp) _, by simp⟩
    have := heap_alloc_new (w.alloc (.cells (nc n u).toArray 29)) (.cells (nc nz uz).toArray 29)
    simpa using this
  obtain ⟨c1, -, -, -, -⟩ := bx0.cell hW
  have K1 := roomy3_any (Rel.keep h.p bx0.below)
  have H0 : Hid (Nin w n u ∧ Bxn w ((w.alloc (.cells (nc n u).toArray 29)).alloc (.cells (nc nz uz).toArray 29)) n u) := ⟨h, bx0⟩
  have hhn := hW.next.1
  obtain ⟨zz, ezz⟩ : ∃ z, z = nz := ⟨_, rfl⟩
  obtain ⟨uu, euu⟩ : ∃ z, z = uz := ⟨_, rfl⟩
  have HZ : Hid (zz = nz ∧ uu = uz) := ⟨ezz, euu⟩
  have zW : zz.W := by rw [ezz]; exact nz_w
  rw [← ezz, ← euu] at hz K1 c1 H0
  clear h bx0 ezz euu
  go_enter Try.func23, Try.ntmps23
  go_wp2_with (first
    | (go_at_call 20; go_loud (refine K1.mono ?_; rintro e w3 ⟨u3, rfl, ry3, b3⟩; have bx3 := H0.out.2.keep b3; obtain ⟨d1, -, -, f1, -⟩ := bx3.cell hW; have bx4 : Bxn w (w3.setCell ⟨w.heap.size, 1, none⟩ u3) n ⟨u3, u.v, u.x, u.k⟩ := bx3.set 1 [u3] (rng_p bx3.rng bx3.thr u3); obtain ⟨-, c2, -, -, -⟩ := bx4.cell hW; have K2 := roomy3_any (Rel.keep H0.out.1.v bx4.below); have H3 : Hid (Bxn w (w3.setCell ⟨w.heap.size, 1, none⟩ u3) n ⟨u3, u.v, u.x, u.k⟩ ∧ Ry (fun q => w.heap.size + 2 ≤ q) (w3.setCell ⟨w.heap.size, 1, none⟩ u3) u3 n.path) := ⟨bx4, Ry.set (w := w) (ry3.mono (fun q hq _ => Nat.le_trans H0.out.2.hs hq.1)) 1 [u3]⟩; have ry4 := ry3; obtain ⟨g3, cap3, e3, -⟩ := ry4; subst e3; clear ry3 b3 bx3 bx4 K1 c1))
    | (go_at_call 20; go_loud (refine K2.mono ?_; rintro e w5 ⟨u5, rfl, ry5, b5⟩; have bx5 := H3.out.1.keep b5; obtain ⟨-, d2, -, -, f2⟩ := bx5.cell hW; have bx6 : Bxn w (w5.setCell ⟨w.heap.size, 2, none⟩ u5) n ⟨.slice (some ⟨g3, 0, none⟩) n.path.length cap3, u5, u.x, u.k⟩ := bx5.set 2 [u5] (rng_vv bx5.rng bx5.thr u5); obtain ⟨-, -, rx, -, -⟩ := bx6.cell hW; have K3 := lrefOf_any hW.next (Rel.keep H0.out.1.x bx6.below); have H5 : Hid (Bxn w (w5.setCell ⟨w.heap.size, 2, none⟩ u5) n ⟨.slice (some ⟨g3, 0, none⟩) n.path.length cap3, u5, u.x, u.k⟩ ∧ Ry (fun q => w.heap.size + 2 ≤ q) (w5.setCell ⟨w.heap.size, 2, none⟩ u5) (.slice (some ⟨g3, 0, none⟩) n.path.length cap3) n.path ∧ Ry (fun q => w.heap.size + 2 ≤ q) (w5.setCell ⟨w.heap.size, 2, none⟩ u5) u5 n.val) := ⟨bx6, Ry.set (w := w) (H3.out.2.below b5) 2 [u5], Ry.set (w := w) (ry5.mono (fun q hq _ => Nat.le_trans H3.out.1.hs hq.1)) 2 [u5]⟩; have ry6 := ry5; obtain ⟨g5, cap5, e5, -⟩ := ry6; subst e5; clear ry5 b5 bx5 bx6 K2 c2 H3))
    | refine wpList_ld26 (by kernel_rfl) _ (by rfl) _ _ _ _ hhn rx (by rfl) ?_
    | (go_at_call 37; go_loud (refine K3.mono ?_; rintro e w7 ⟨u7, rfl, ry7, b7⟩; have bx7 := H5.out.1.keep b7; have th := there_sub (o := 4) (m := 34) bx7.thr (by omega); have o7 := vb_one ry7.vf.vb; have H7 : Hid (Lk w (w7.setCells w.heap.size 4 (rcs n.next u7)) n u ⟨.slice (some ⟨g3, 0, none⟩) n.path.length cap3, .slice (some ⟨g5, 0, none⟩) n.val.length cap5, u7, u.k⟩ 0) := ⟨bx7.set 4 _ (rng_xx hW bx7.rng bx7.thr u7), Ry.set (w := w) (H5.out.2.1.below b7) _ _, Ry.set (w := w) (H5.out.2.2.below b7) _ _, Ry.set (w := w) (ry7.mono (fun q hq _ => Nat.le_trans H5.out.1.hs hq)) _ _, fun j r hj => (by omega), fun j _ => rfl⟩; clear ry7 b7 bx7 K3 rx H5))
    | refine wpList_st26m (by kernel_rfl) _ _ (by rfl) w.heap.size 4 n.next u7 hhn o7 th (by rfl) (by rfl) ?_)
  obtain ⟨X, eX⟩ : ∃ X, X = w7.setCells w.heap.size 4 (rcs n.next u7) := ⟨_, rfl⟩
  rw [← eX] at H7 ⊢
  clear eX th
  go_loopg [3] 16 (fun gg k wr => ∃ (i : Nat) (u' : Nv), i ≤ 16 ∧ gg = 16 - i ∧ k = .int .i64 i ∧ Lk w wr n u u' i)
  case atStart => exact ⟨0, _, by omega, rfl, rfl, H7.out⟩
  case round =>
    obtain ⟨i, u', hi, rfl, rfl, hk⟩ := hrel
    clear H7
    by_cases hin : i < 16
    · have i1 : (i : Int) < 16 := by omega
      obtain ⟨r, hr⟩ : ∃ r, n.kids[i]? = some r := ⟨_, List.getElem?_eq_getElem (by rw [hW.kids]; exact hin)⟩
      have hrW := hW.kid r (List.mem_of_getElem? hr)
      have rg := (nb_of hW hk.bx.rng).kid hr
      have hh := hrW.1
      rw [hk.ko i (Nat.le_refl _)] at rg
      have K4 := lrefOf_any hrW (Rel.keep (H0.out.1.k hr) hk.bx.below)
      have HX : Hid (n.kids[i]? = some r ∧ Lk w wr n u u' i) := ⟨hr, hk⟩
      clear hr hrW hk
      go_wp2_with (first
        | refine wpList_ld26 (by kernel_rfl) _ (by rfl) _ _ _ _ hh rg (by rfl) ?_
        | (go_at_call 37; go_loud (refine K4.mono ?_; rintro e w8 ⟨u8, rfl, ry8, b8⟩; have o8 := vb_one ry8.vf.vb; have th := there_sub (o := 38 + i * 34) (m := 34) (HX.out.2.bx.keep b8).thr (by omega); have H8 : Hid (Ry (fun q => wr.heap.size ≤ q) w8 u8 r.b ∧ Below wr.heap.size wr w8) := ⟨ry8, b8⟩; clear ry8 b8 K4))
        | refine wpList_st26m (by kernel_rfl) _ _ (by rfl) w.heap.size (38 + i * 34) r u8 hh o8 th (by rfl) (by rfl) ?_)
      go_roundg (16 - (i + 1))
      case measure => omega
      case rel => exact ⟨i + 1, _, hin, rfl, by go_num, HX.out.2.next hW hin HX.out.1 H8.out.2 H8.out.1⟩
    · have i1 : ¬ (i : Int) < 16 := by omega
      obtain rfl : i = 16 := by omega
      have nb := nb_of hW hk.bx.rng
      have nr : Nry (fun q => w.heap.size + 2 ≤ q) wr n u' := ⟨hW, hk.p, hk.v, hk.x, fun {j r} hr => hk.k j r (by have := (List.getElem?_eq_some_iff.1 hr).1; rw [hW.kids] at this; exact this) hr⟩
      have on := nr.nin.one
      have g1 := hk.bx.g1
      rw [← HZ.out.1, ← HZ.out.2] at g1
      have HX : Hid (Nry (fun q => w.heap.size + 2 ≤ q) wr n u' ∧ Below w.heap.size w wr) := ⟨nr, hk.bx.below⟩
      clear hk nr
      go_wp2_with (first
        | refine wpList_ld29 (by kernel_rfl) _ (by rfl) w.heap.size n u' hW nb (by rfl) ?_
        | refine wpList_st29b (by kernel_rfl) _ _ (by rfl) (w.heap.size + 1) n zz u' uu hW zW on g1 (by rfl) (by rfl) ?_)
      have hr3 := setRow_heap wr (w.heap.size + 1) _ (nc n u').toArray _ _ g1
      refine bodyPost_ret (res1n rfl _ _ (w.heap.size + 1) _ _ hW (rng_row hr3) rfl) rfl ?_
      exact ⟨u', rfl, HX.out.1.same (fun i hi _ => setRow_other _ _ _ _ (by omega)), below_setRow HX.out.2 (by omega) _⟩
end Go.Proofs.Ytadcbhjmbgenbaa
