import Derived.Test.YtpiinkfcaoaffaaNvzz
import Derived.Test.YtpiinkfcaoaffaaYrzz
/-
  isValue, isPath, wholeKind, isRef, isNone, isNext.
-/
namespace Go.Proofs.Ytpiinkfcaoaffaa
open Go.RowKit
/-- the lists of a node, by number -/
def Nv.at (u : Nv) : Nat → Value
  | 0 => u.p
  | 1 => u.v
  | 2 => u.x
  | i + 3 => u.k i
/-- A NODE THAT A CALL HAS HANDED OUT: each list in a block of its own, from lo on. -/
structure Nout (lo : Nat) (w : World) (n : Nd) (u : Nv) : Prop where
  W : n.W
  p : w.ownsRow lo 5 1 u.p n.path.length (bv n.path)
  v : w.ownsRow lo 5 1 u.v n.val.length (bv n.val)
  x : w.ownsRow lo 5 1 u.x n.next.b.length (bv n.next.b)
  k : ∀ {i : Nat} {r : Rf}, n.kids[i]? = some r → w.ownsRow lo 5 1 (u.k i) r.b.length (bv r.b)
  lp : n.path.length ≤ 1048576
  lv : n.val.length ≤ 1048576
  lx : n.next.b.length ≤ 1048576
  lk : ∀ r ∈ n.kids, r.b.length ≤ 1048576
  apart : ∀ i j, i < 19 → j < 19 → i ≠ j → ∀ g, (u.at i).ownBlock = some g → (u.at j).ownBlock ≠ some g
theorem Nout.inn {lo : Nat} {w : World} {n : Nd} {u : Nv} (h : Nout lo w n u) : Nin w n u :=
  ⟨h.W, vb_of_own h.p rfl h.W.path (by have := h.lp; omega), vb_of_own h.v rfl h.W.val (by have := h.lv; omega), vb_of_own h.x rfl h.W.next.2.2 (by have := h.lx; omega), fun hr => vb_of_own (h.k hr) rfl (h.W.kid _ (List.mem_of_getElem? hr)).2.2 (by have := h.lk _ (List.mem_of_getElem? hr); omega)⟩
theorem Nout.keep {lo : Nat} {w w' : World} {n : Nd} {u : Nv} (h : Nout lo w n u) (k : Below w.heap.size w w') : Nout lo w' n u :=
  ⟨h.W, own_same h.p (fun g hg => k.block g (h.p.lt g hg).2), own_same h.v (fun g hg => k.block g (h.v.lt g hg).2), own_same h.x (fun g hg => k.block g (h.x.lt g hg).2), fun hr => own_same (h.k hr) (fun g hg => k.block g ((h.k hr).lt g hg).2), h.lp, h.lv, h.lx, h.lk, h.apart⟩
theorem uz_at (i : Nat) : (uz.at i).ownBlock = none := by
  match i with
  | 0 => rfl
  | 1 => rfl
  | 2 => rfl
  | _ + 3 => rfl
theorem nout_zero (lo : Nat) (w : World) : Nout lo w nz uz :=
  ⟨nz_w, ⟨rfl, Or.inl ⟨rfl, rfl⟩⟩, ⟨rfl, Or.inl ⟨rfl, rfl⟩⟩, ⟨rfl, Or.inl ⟨rfl, rfl⟩⟩, fun hr => by rw [kz_eq (List.mem_of_getElem? hr)]; exact ⟨rfl, Or.inl ⟨rfl, rfl⟩⟩, by decide, by decide, by decide, fun r hr => by rw [kz_eq hr]; decide, fun i j _ _ _ g hg => by rw [uz_at] at hg; cases hg⟩
/-- what Decode answers -/
def dN (s : List Nat) : Nd := (decN KD s).getD nz
def dE (s : List Nat) : Nat := if (decN KD s).isSome then 0 else 70
def DecPst (s : List Nat) (w : World) (e : Ending) (w' : World) : Prop :=
  ∃ u, e = .returned (.tuple #[.agg (nc (dN s) u).toArray, .int .i64 ((dE s : Nat) : Int)]) ∧ Nout w.heap.size w' (dN s) u ∧ Below w.heap.size w w'
/-- DECODE ANSWERS SO -/
def DecOK (s : List Nat) : Prop := ∀ (w : World) (v : Value), Vb w v s → Calls Try.prog 8 #[v] w (DecPst s w)
set_option maxRecDepth 100000 in
set_option maxHeartbeats 800000 in
theorem isValue_any {w : World} {v : Value} {s : List Nat} (h : Vb w v s) : Calls Try.prog 40 #[v] w fun e w' => e = .returned (.bool (isV s)) ∧ w' = w := by
  obtain ⟨a, b, off, c, rfl, hv, hc, -, hl⟩ := h
  have HV : Hid (isV s = (decide (0 < s.length) && decide (s.length ≤ 256))) := rfl
  clear hv
  obtain ⟨n, en⟩ : ∃ n, n = s.length := ⟨_, rfl⟩
  rw [← en] at hl ⊢
  have HN : Hid (n = s.length) := en
  clear en hc
  by_cases h0 : 0 < n
  · have i0 : (0 : Int) < n := by omega
    by_cases h1 : n ≤ 256
    · have i1 : (n : Int) ≤ 256 := by omega
      go_enter Try.func40, Try.ntmps40
      go_wp2_with fail
      go_ret
      rw [HV.out, ← HN.out, decide_eq_true h0, decide_eq_true h1]
      exact ⟨rfl, rfl⟩
    · have i1 : ¬ (n : Int) ≤ 256 := by omega
      go_enter Try.func40, Try.ntmps40
      go_wp2_with fail
      go_ret
      rw [HV.out, ← HN.out, decide_eq_true h0, decide_eq_false h1]
      exact ⟨rfl, rfl⟩
  · have i0 : ¬ (0 : Int) < n := by omega
    go_enter Try.func40, Try.ntmps40
    go_wp2_with fail
    go_ret
    rw [HV.out, ← HN.out, decide_eq_false h0]
    exact ⟨rfl, rfl⟩
theorem pack_vb {w : World} {v : Value} {s : List Nat} (leaf : Bool) (h : Vb w v s) :
    Calls Try.prog 32 #[v, .bool leaf] w fun e w' => ∃ u, e = .returned (.tuple #[u, .int .i64 ((pkE s : Nat) : Int)]) ∧ Ans w w' u (pkR leaf s) := by
  obtain ⟨a, b, off, c, rfl, hv, hc, _⟩ := h
  exact pack_any w a b off c s leaf hv hc
set_option maxRecDepth 100000 in
set_option maxHeartbeats 800000 in
theorem nisPath_any {w : World} {v : Value} {s : List Nat} (h : Vb w v s) : Calls Try.prog 23 #[v] w fun e w' => e = .returned (.bool (decide (IsP s))) ∧ Below w.heap.size w w' := by
  have K := pack_vb false h
  clear h
  by_cases hp : IsP s
  · rw [decide_eq_true hp]
    rw [show pkE s = 0 by unfold pkE; rw [if_pos hp]] at K
    clear hp
    go_enter Try.func23, Try.ntmps23
    go_wp2_with (go_at_call 32; refine K.mono ?_; rintro e w' ⟨u, rfl, ha⟩; have HB : Hid (Below w.heap.size w w') := ha.below; clear ha)
    go_ret
    exact ⟨rfl, HB.out⟩
  · rw [decide_eq_false hp]
    rw [show pkE s = 60 by unfold pkE; rw [if_neg hp]] at K
    clear hp
    go_enter Try.func23, Try.ntmps23
    go_wp2_with (go_at_call 32; refine K.mono ?_; rintro e w' ⟨u, rfl, ha⟩; have HB : Hid (Below w.heap.size w w') := ha.below; clear ha)
    go_ret
    exact ⟨rfl, HB.out⟩
theorem dN_k {s : List Nat} (hs : ∀ x ∈ s, x < 256) : KD s = if 32 ≤ s.length then 0 else (dN s).k := by
  rw [KD_eq hs]
  split
  · rfl
  · unfold dN
    cases decN KD s <;> rfl
set_option maxRecDepth 100000 in
set_option maxHeartbeats 800000 in
theorem wholeKind_any {w : World} {v : Value} {s : List Nat} (h : Vb w v s) (hD : s.length < 32 → DecOK s) : Calls Try.prog 52 #[v] w fun e w' => e = .returned (.int .i64 (KD s)) ∧ Below w.heap.size w w' := by
  have hz := zv29
  have hs : ∀ x ∈ s, x < 256 := by obtain ⟨a, b, off, c, rfl, hv, -⟩ := h; exact (vw_ok hv).2
  have e0 := dN_k hs
  have K := fun h1 => hD h1 w v h
  obtain ⟨a, b, off, c, rfl, hv, hc, -, hl⟩ := h
  clear hv hD
  by_cases h0 : 32 ≤ s.length
  · rw [if_pos h0] at e0
    have i0 : (32 : Int) ≤ s.length := by omega
    rw [e0]
    clear e0 K
    go_enter Try.func52, Try.ntmps52
    go_wp2_with fail
    go_ret
    exact ⟨rfl, Below.refl _ _⟩
  · rw [if_neg h0] at e0
    have i0 : ¬ (32 : Int) ≤ s.length := by omega
    have K := K (by omega)
    rw [e0]
    clear e0
    go_enter Try.func52, Try.ntmps52
    go_wp2_with (first
      | (go_at_call 8; refine K.mono ?_; rintro e w1 ⟨u, rfl, ho, hb⟩; have HO : Hid (Nout w.heap.size w1 (dN s) u ∧ Below w.heap.size w w1) := ⟨ho, hb⟩; have hw := ho.W; have h1 := ho.inn.one; clear ho hb)
      | (refine wpList_st29 (by kernel_rfl) _ _ (by rfl) _ _ _ _ hw nz_w h1 (by rfl) (by rfl) ?_; have hk := (nb_new hw w1 u).k))
    go_ret
    exact ⟨rfl, HO.out.2.alloc HO.out.2.size _⟩
/-- a ref handed in -/
structure Rin (w : World) (r : Rf) (v : Value) : Prop where
  W : r.W
  b : Vb w v r.b
  D : r.k = 2 → r.b.length < 32 → DecOK r.b
theorem Rin.keep {w w' : World} {r : Rf} {v : Value} (h : Rin w r v) (k : Below w.heap.size w w') : Rin w' r v := ⟨h.W, Rel.keep h.b k, h.D⟩
set_option maxRecDepth 100000 in
set_option maxHeartbeats 1600000 in
theorem isRef_any {w : World} {r : Rf} {v : Value} (h : Rin w r v) : Calls Try.prog 41 #[.agg (rcs r v).toArray] w fun e w' => e = .returned (.bool (isRf KD r)) ∧ Below w.heap.size w w' := by
  obtain ⟨hW, hb, hD⟩ := h
  have B1 : Below w.heap.size w (w.alloc (.cells (rcs r v).toArray 26)) := below_alloc _ _
  have hvn : Vb (w.alloc (.cells (rcs r v).toArray 26)) v r.b := Rel.keep hb B1
  have K := fun h2 => wholeKind_any hvn (hD h2)
  obtain ⟨c0, c1, c2⟩ := rng_ref hW.1 (rng_ref_new w r v 26)
  rw [Nat.zero_add] at c1 c2
  have heq := fun w0 => eq_hash w0 r.h z32 hW.1 hW.2.1 z32_len z32_lt
  obtain ⟨a, b, off, c, rfl, hv, hc, -, hl⟩ := hb
  clear hv hvn
  have HI : Hid (isRf KD r = if r.k = 0 then decide (r.h = z32) && decide (r.b.length = 0) else if r.k = 1 then decide (r.b.length = 0) else if r.k = 2 then decide (r.h = z32) && decide (KD r.b ≠ 0) else false) := rfl
  obtain ⟨n, en⟩ : ∃ n, n = r.b.length := ⟨_, rfl⟩
  rw [← en] at hl hc c2 K B1 ⊢ c0 c1
  have HN : Hid (n = r.b.length) := en
  have HB : Hid (Below w.heap.size w (w.alloc (.cells (rcs r (.slice a n c)).toArray 26))) := B1
  have hh := hW.1
  clear en B1 hW
  by_cases k0 : r.k = 0
  · rw [k0] at c0
    have HK : Hid (r.k = 0) := k0
    clear k0 K
    by_cases hz : r.h = z32
    · rw [decide_eq_true hz] at heq
      have HZ : Hid (r.h = z32) := hz
      clear hz
      by_cases h0 : n = 0
      · subst h0
        go_enter Try.func41, Try.ntmps41
        go_wp2_with (first | refine wpList_ld24 (by kernel_rfl) _ (by rfl) _ _ _ hh c1 (by rfl) ?_ | refine wpList_bd24 (by kernel_rfl) (by rfl) ?_)
        go_ret
        rw [HI.out, if_pos HK.out, decide_eq_true HZ.out, ← HN.out]
        exact ⟨rfl, HB.out⟩
      · have i0 : ¬ (n : Int) = 0 := by omega
        have i0b : ((n : Int) == 0) = false := by simpa using i0
        go_enter Try.func41, Try.ntmps41
        go_wp2_with (first | refine wpList_ld24 (by kernel_rfl) _ (by rfl) _ _ _ hh c1 (by rfl) ?_ | refine wpList_bd24 (by kernel_rfl) (by rfl) ?_)
        go_ret
        rw [HI.out, if_pos HK.out, decide_eq_true HZ.out, ← HN.out, decide_eq_false h0]
        exact ⟨rfl, HB.out⟩
    · rw [decide_eq_false hz] at heq
      go_enter Try.func41, Try.ntmps41
      go_wp2_with (first | refine wpList_ld24 (by kernel_rfl) _ (by rfl) _ _ _ hh c1 (by rfl) ?_ | refine wpList_bd24 (by kernel_rfl) (by rfl) ?_)
      go_ret
      rw [HI.out, if_pos HK.out, decide_eq_false hz]
      exact ⟨rfl, HB.out⟩
  · have j0 : (r.k == 0) = false := by simpa using k0
    by_cases k1 : r.k = 1
    · rw [k1] at c0
      have HK : Hid (r.k = 1 ∧ ¬ r.k = 0) := ⟨k1, k0⟩
      clear k0 k1 j0 K
      by_cases h0 : n = 0
      · subst h0
        go_enter Try.func41, Try.ntmps41
        go_wp2_with fail
        go_ret
        rw [HI.out, if_neg HK.out.2, if_pos HK.out.1, ← HN.out]
        exact ⟨rfl, HB.out⟩
      · have i0 : ¬ (n : Int) = 0 := by omega
        have i0b : ((n : Int) == 0) = false := by simpa using i0
        go_enter Try.func41, Try.ntmps41
        go_wp2_with fail
        go_ret
        rw [HI.out, if_neg HK.out.2, if_pos HK.out.1, ← HN.out, decide_eq_false h0]
        exact ⟨rfl, HB.out⟩
    · have j1 : (r.k == 1) = false := by simpa using k1
      by_cases k2 : r.k = 2
      · have K := K k2
        rw [k2] at c0
        have HK : Hid (r.k = 2 ∧ ¬ r.k = 1 ∧ ¬ r.k = 0) := ⟨k2, k1, k0⟩
        clear k0 k1 k2 j0 j1
        by_cases hz : r.h = z32
        · rw [decide_eq_true hz] at heq
          have HZ : Hid (r.h = z32) := hz
          clear hz
          obtain ⟨kd, ekd⟩ : ∃ k, k = KD r.b := ⟨_, rfl⟩
          rw [← ekd] at K
          have HE : Hid (kd = KD r.b) := ekd
          clear ekd
          by_cases hk : kd = 0
          · subst hk
            go_enter Try.func41, Try.ntmps41
            go_wp2_with (first | refine wpList_ld24 (by kernel_rfl) _ (by rfl) _ _ _ hh c1 (by rfl) ?_ | refine wpList_bd24 (by kernel_rfl) (by rfl) ?_ | (go_at_call 52; refine K.mono ?_; rintro e w1 ⟨rfl, hb1⟩; have HB1 : Hid (Below w.heap.size w w1) := ch HB.out hb1; clear hb1))
            go_ret
            rw [HI.out, if_neg HK.out.2.2, if_neg HK.out.2.1, if_pos HK.out.1, decide_eq_true HZ.out, ← HE.out]
            exact ⟨rfl, HB1.out⟩
          · have i0b : (kd == 0) = false := by simpa using hk
            have i0c : (kd != 0) = true := by simpa using hk
            go_enter Try.func41, Try.ntmps41
            go_wp2_with (first | refine wpList_ld24 (by kernel_rfl) _ (by rfl) _ _ _ hh c1 (by rfl) ?_ | refine wpList_bd24 (by kernel_rfl) (by rfl) ?_ | (go_at_call 52; refine K.mono ?_; rintro e w1 ⟨rfl, hb1⟩; have HB1 : Hid (Below w.heap.size w w1) := ch HB.out hb1; clear hb1))
            go_ret
            rw [HI.out, if_neg HK.out.2.2, if_neg HK.out.2.1, if_pos HK.out.1, decide_eq_true HZ.out, ← HE.out, decide_eq_true hk]
            exact ⟨rfl, HB1.out⟩
        · rw [decide_eq_false hz] at heq
          clear K
          go_enter Try.func41, Try.ntmps41
          go_wp2_with (first | refine wpList_ld24 (by kernel_rfl) _ (by rfl) _ _ _ hh c1 (by rfl) ?_ | refine wpList_bd24 (by kernel_rfl) (by rfl) ?_)
          go_ret
          rw [HI.out, if_neg HK.out.2.2, if_neg HK.out.2.1, if_pos HK.out.1, decide_eq_false hz]
          exact ⟨rfl, HB.out⟩
      · have j2 : (r.k == 2) = false := by simpa using k2
        clear K
        go_enter Try.func41, Try.ntmps41
        go_wp2_with fail
        go_ret
        rw [HI.out, if_neg k0, if_neg k1, if_neg k2]
        exact ⟨rfl, HB.out⟩
set_option maxRecDepth 100000 in
set_option maxHeartbeats 1600000 in
theorem isNone_any {w : World} {r : Rf} {v : Value} (hW : r.W) (hb : Vb w v r.b) : Calls Try.prog 25 #[.agg (rcs r v).toArray] w fun e w' => e = .returned (.bool (isNo r)) ∧ Below w.heap.size w w' := by
  have B1 : Below w.heap.size w (w.alloc (.cells (rcs r v).toArray 26)) := below_alloc _ _
  have rg := rng_ref_new w r v 26
  obtain ⟨c0, -, -⟩ := rng_ref hW.1 rg
  have hh := hW.1
  by_cases k0 : r.k = 0
  · have K := isRef_any ⟨hW, Rel.keep hb B1, fun h2 => by omega⟩
    have e : isNo r = isRf KD r := by unfold isNo isRf; rw [if_pos k0, decide_eq_true k0]; rfl
    rw [e]
    have HB : Hid (Below w.heap.size w (w.alloc (.cells (rcs r v).toArray 26))) := B1
    rw [k0] at c0
    obtain ⟨q, eq⟩ : ∃ q, q = isRf KD r := ⟨_, rfl⟩
    rw [← eq] at K ⊢
    clear k0 e eq B1 hW hb
    go_enter Try.func25, Try.ntmps25
    go_wp2_with (first | refine wpList_ld26 (by kernel_rfl) _ (by rfl) _ _ _ _ hh rg (by rfl) ?_ | (go_at_call 41; refine K.mono ?_; rintro e w1 ⟨rfl, hb1⟩; have HB1 : Hid (Below w.heap.size w w1) := ch HB.out hb1; clear hb1))
    go_ret
    exact ⟨rfl, HB1.out⟩
  · have e : isNo r = false := by unfold isNo; rw [decide_eq_false k0]; rfl
    rw [e]
    have j0 : (r.k == 0) = false := by simpa using k0
    clear e
    go_enter Try.func25, Try.ntmps25
    go_wp2_with fail
    go_ret
    exact ⟨rfl, B1⟩
set_option maxRecDepth 100000 in
set_option maxHeartbeats 1600000 in
theorem isNext_any {w : World} {r : Rf} {v : Value} (h : Rin w r v) : Calls Try.prog 39 #[.agg (rcs r v).toArray] w fun e w' => e = .returned (.bool (isNx KD r)) ∧ Below w.heap.size w w' := by
  have B1 : Below w.heap.size w (w.alloc (.cells (rcs r v).toArray 26)) := below_alloc _ _
  have rg := rng_ref_new w r v 26
  have hh := h.W.1
  obtain ⟨c0, c1, c2⟩ := rng_ref hh rg
  rw [Nat.zero_add] at c1 c2
  have KR := isRef_any (h.keep B1)
  have KW := fun h2 => wholeKind_any (h.keep B1).b (h.D h2)
  have heq := fun w0 => eq_hash w0 r.h z32 hh h.W.2.1 z32_len z32_lt
  have HB : Hid (Below w.heap.size w (w.alloc (.cells (rcs r v).toArray 26))) := B1
  have HI : Hid (isNx KD r = if r.k = 2 then decide (r.h = z32) && decide (KD r.b = 3) else decide (r.k = 1) && decide (r.b.length = 0)) := rfl
  clear B1 h
  by_cases k2 : r.k = 2
  · have KW := KW k2
    rw [k2] at c0
    have HK : Hid (r.k = 2) := k2
    clear k2 KR
    by_cases hz : r.h = z32
    · rw [decide_eq_true hz] at heq
      have HZ : Hid (r.h = z32) := hz
      clear hz
      obtain ⟨kd, ekd⟩ : ∃ k, k = KD r.b := ⟨_, rfl⟩
      rw [← ekd] at KW
      have HE : Hid (kd = KD r.b) := ekd
      clear ekd
      by_cases hk : kd = 3
      · subst hk
        go_enter Try.func39, Try.ntmps39
        go_wp2_with (first | refine wpList_ld24 (by kernel_rfl) _ (by rfl) _ _ _ hh c1 (by rfl) ?_ | refine wpList_bd24 (by kernel_rfl) (by rfl) ?_ | (go_at_call 52; refine KW.mono ?_; rintro e w1 ⟨rfl, hb1⟩; have HB1 : Hid (Below w.heap.size w w1) := ch HB.out hb1; clear hb1))
        go_ret
        rw [HI.out, if_pos HK.out, decide_eq_true HZ.out, ← HE.out]
        exact ⟨rfl, HB1.out⟩
      · have i0b : (kd == 3) = false := by simpa using hk
        go_enter Try.func39, Try.ntmps39
        go_wp2_with (first | refine wpList_ld24 (by kernel_rfl) _ (by rfl) _ _ _ hh c1 (by rfl) ?_ | refine wpList_bd24 (by kernel_rfl) (by rfl) ?_ | (go_at_call 52; refine KW.mono ?_; rintro e w1 ⟨rfl, hb1⟩; have HB1 : Hid (Below w.heap.size w w1) := ch HB.out hb1; clear hb1))
        go_ret
        rw [HI.out, if_pos HK.out, decide_eq_true HZ.out, ← HE.out, decide_eq_false hk]
        exact ⟨rfl, HB1.out⟩
    · rw [decide_eq_false hz] at heq
      clear KW
      go_enter Try.func39, Try.ntmps39
      go_wp2_with (first | refine wpList_ld24 (by kernel_rfl) _ (by rfl) _ _ _ hh c1 (by rfl) ?_ | refine wpList_bd24 (by kernel_rfl) (by rfl) ?_)
      go_ret
      rw [HI.out, if_pos HK.out, decide_eq_false hz]
      exact ⟨rfl, HB.out⟩
  · have j2 : (r.k == 2) = false := by simpa using k2
    clear KW heq
    by_cases k1 : r.k = 1
    · have e : isNx KD r = isRf KD r := by unfold isRf; rw [HI.out, if_neg k2, if_neg (by omega), if_pos k1, decide_eq_true k1]; rfl
      rw [e]
      obtain ⟨q, eq⟩ : ∃ q, q = isRf KD r := ⟨_, rfl⟩
      rw [← eq] at KR ⊢
      rw [k1] at c0
      clear e eq k1 k2 j2
      go_enter Try.func39, Try.ntmps39
      go_wp2_with (first | refine wpList_ld26 (by kernel_rfl) _ (by rfl) _ _ _ _ hh rg (by rfl) ?_ | (go_at_call 41; refine KR.mono ?_; rintro e w1 ⟨rfl, hb1⟩; have HB1 : Hid (Below w.heap.size w w1) := ch HB.out hb1; clear hb1))
      go_ret
      exact ⟨rfl, HB1.out⟩
    · have j1 : (r.k == 1) = false := by simpa using k1
      clear KR
      go_enter Try.func39, Try.ntmps39
      go_wp2_with fail
      go_ret
      rw [HI.out, if_neg k2, decide_eq_false k1]
      exact ⟨rfl, HB.out⟩
end Go.Proofs.Ytpiinkfcaoaffaa
