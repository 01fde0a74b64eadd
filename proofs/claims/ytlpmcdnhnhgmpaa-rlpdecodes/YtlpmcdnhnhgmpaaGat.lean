/-
  cairnlaw05: gather, room.
-/
import Derived.Test.YtlpmcdnhnhgmpaaApt
import Derived.Test.YtlpmcdnhnhgmpaaDc
namespace Go.Proofs.Ytlpmcdnhnhgmpaa
open Go.RowKit

mutual
/-- how many items stand in one, itself too -/
def nodes : It → Nat
  | .mk _ _ xs => 1 + nodesL xs
def nodesL : List It → Nat
  | [] => 0
  | x :: xs => nodes x + nodesL xs
end
theorem nodes_mk (l b xs) : nodes (.mk l b xs) = 1 + nodesL xs := by rw [nodes]
theorem nodesL_nil : nodesL [] = 0 := by rw [nodesL]
theorem nodesL_cons (x xs) : nodesL (x :: xs) = nodes x + nodesL xs := by rw [nodesL]
theorem nodesL_app (xs ys : List It) : nodesL (xs ++ ys) = nodesL xs + nodesL ys := by
  induction xs with
  | nil => rw [List.nil_append, nodesL_nil, Nat.zero_add]
  | cons x xs ih => rw [List.cons_append, nodesL_cons, nodesL_cons, ih, Nat.add_assoc]
theorem nodesL_take {xs : List It} {i : Nat} {x : It} (hx : xs[i]? = some x) : nodesL (xs.take (i + 1)) = nodesL (xs.take i) + nodes x := by
  obtain ⟨hi', rfl⟩ := List.getElem?_eq_some_iff.1 hx
  rw [List.take_succ_eq_append_getElem hi', nodesL_app, nodesL_cons, nodesL_nil, Nat.add_zero]
theorem nodesL_take_le (xs : List It) (i : Nat) : nodesL (xs.take i) ≤ nodesL xs := by
  have : nodesL xs = nodesL (xs.take i) + nodesL (xs.drop i) := by rw [← nodesL_app, List.take_append_drop]
  omega
/-- STRINGS THAT SHARE NO ROOM, in blocks from lo on, below hi -/
structure Gt (w : World) (lo hi : Nat) (Us : List Value) : Prop where
  str : ∀ u ∈ Us, ∃ s, Str w Any u s ∧ s.length ≤ 1048576
  blk : ∀ u ∈ Us, ∀ g, u.ownBlock = some g → lo ≤ g ∧ g < hi
  sep : Us.Pairwise Sep
theorem Gt.nil (w : World) (lo hi : Nat) : Gt w lo hi [] := ⟨fun u hu => (by cases hu), fun u hu => (by cases hu), List.Pairwise.nil⟩
theorem Gt.same {w w' : World} {lo hi : Nat} {Us : List Value} (h : Gt w lo hi Us) (k : ∀ g, g < hi → w'.heap[g]? = w.heap[g]?) : Gt w' lo hi Us :=
  ⟨fun u hu => by
    obtain ⟨s, hs, hl⟩ := h.str u hu
    exact ⟨s, ⟨own_same hs.own (fun g hg => k g (h.blk u hu g hg).2), hs.foot, hs.ok⟩, hl⟩, h.blk, h.sep⟩
theorem Gt.app {w : World} {lo hi : Nat} {Us Vs : List Value} (h : Gt w lo hi Us) (k : Gt w lo hi Vs) (hs : ∀ u ∈ Us, ∀ v ∈ Vs, Sep u v) : Gt w lo hi (Us ++ Vs) :=
  ⟨fun u hu => by rcases List.mem_append.1 hu with q | q; exact h.str u q; exact k.str u q, fun u hu => by rcases List.mem_append.1 hu with q | q; exact h.blk u q; exact k.blk u q, List.pairwise_append.2 ⟨h.sep, k.sep, hs⟩⟩
theorem Gt.wide {w : World} {lo hi lo' hi' : Nat} {Us : List Value} (h : Gt w lo hi Us) (h1 : lo' ≤ lo) (h2 : hi ≤ hi') : Gt w lo' hi' Us := ⟨h.str, fun u hu g hg => by have := h.blk u hu g hg; omega, h.sep⟩
theorem gt_one {w : World} {lo hi : Nat} {v : Value} {s : List Nat} (ho : w.ownsRow lo 5 1 v s.length (bv s)) (hlt : ∀ q, v.ownBlock = some q → q < hi) (ok : ∀ x ∈ s, x < 256) (hl : s.length ≤ 1048576) : Gt w lo hi [v] :=
  ⟨fun u hu => by
    rw [List.mem_singleton] at hu
    subst hu
    exact ⟨s, ⟨own_base ho, fun _ _ => trivial, ⟨by omega, ok⟩⟩, hl⟩, fun u hu g hg => by
    rw [List.mem_singleton] at hu
    subst hu
    exact ⟨(ho.lt g hg).1, hlt g hg⟩, by simp⟩
/-- the ends of lists one behind the other -/
theorem ends_mono {s t : Nat → Nat} {n : Nat} (h2 : ∀ i, i + 1 < n → t i ≤ s (i + 1)) (h4 : ∀ i, i < n → s i ≤ t i) : ∀ j i, i < j → j < n → t i ≤ s j := by
  intro j
  induction j with
  | zero => intro i hi; omega
  | succ j ih =>
    intro i hi hj
    by_cases e : i = j
    · subst e; exact h2 i hj
    · have := ih i (by omega) (by omega)
      have := h4 j (by omega)
      have := h2 j hj
      omega

/-- THE ITEMS OF A LIST THAT A CALL HAS MADE, one behind the other -/
structure Ch (w : World) (lo hi : Nat) (xs : List It) (a : Option Addr) (blk off : Nat) (ys : List (Bool × Value × Value)) (s t : Nat → Nat) : Prop where
  ha : 0 < xs.length → a = some ⟨blk, off, none⟩ ∧ blk < hi
  hn : 56 * xs.length ≤ 140737488351232
  len : ys.length = xs.length
  h1 : ∀ i, i < xs.length → lo ≤ s i
  h2 : ∀ i, i + 1 < xs.length → t i ≤ s (i + 1)
  h3 : ∀ i, i < xs.length → t i ≤ hi
  h4 : ∀ i, i < xs.length → s i ≤ t i
  hb : ∀ (i : Nat) (x : It) (y : Bool × Value × Value), xs[i]? = some x → ys[i]? = some y → y.1 = x.l
  hr : ∀ (i : Nat) (x : It) (y : Bool × Value × Value), xs[i]? = some x → ys[i]? = some y → Own w (s i) (t i) x y.2.1 y.2.2
  cell : ∀ (i : Nat) (y : Bool × Value × Value), ys[i]? = some y → w.cell? ⟨blk, off + i * 3, none⟩ = some (.bool y.1) ∧ w.cell? ⟨blk, off + i * 3 + 1, none⟩ = some y.2.1 ∧ w.cell? ⟨blk, off + i * 3 + 2, none⟩ = some y.2.2
theorem Own.ch {w : World} {lo hi : Nat} {l : Bool} {b : List Nat} {xs : List It} {vb vi : Value} (h : Own w lo hi (.mk l b xs) vb vi) :
    ∃ a' n' c' a c blk off ys s t, vb = .slice a' n' c' ∧ vi = .slice a xs.length c ∧ Ch w lo hi xs a blk off ys s t ∧ Gt w lo hi [vb] ∧ (0 < xs.length → ∀ g, vb.ownBlock ≠ some g) := by
  obtain ⟨a', c', a, c, blk, off, e1, e2, -, hI⟩ := h.lies.opened
  cases h with
  | str hb hlt ok hl => exact ⟨a', _, c', a, c, 0, 0, [], fun _ => 0, fun _ => 0, e1, e2, ⟨fun h => by simp at h, by simp, rfl, fun i hi => by simp at hi, fun i hi => by simp at hi, fun i hi => by simp at hi, fun i hi => by simp at hi, fun i x y hx => by simp at hx, fun i x y hx => by simp at hx, fun i y hy => by simp at hy⟩, gt_one hb hlt ok hl, fun h => by simp at h⟩
  | lst ys s t row hlt hl hn h1 h2 h3 h4 hb hr =>
    have g1 : Gt w lo hi [.slice none 0 0] := gt_one (s := []) ⟨rfl, Or.inl ⟨rfl, rfl⟩⟩ (fun q hq => by cases hq) (by simp) (by simp)
    by_cases h0 : 0 < xs.length
    · obtain ⟨g, cap, ev, -, -⟩ := row.form h0
      have eb : (.slice a xs.length c : Value).ownBlock = some g := by rw [← e2, ev]; rfl
      refine ⟨a', _, c', a, c, g, 0, ys, s, t, e1, e2, ⟨fun _ => ⟨?_, hlt g (by rw [ev]; rfl)⟩, hI.hn, hl, h1, h2, h3, h4, hb, hr, fun i y hy => ?_⟩, g1, fun _ g hg => by cases hg⟩
      · rw [ev] at e2
        injection e2 with e2
        exact e2.symm
      · obtain ⟨k1, k2, k3⟩ := fl_at hy
        have c1' := row.cells (g := g) (by rw [ev]; rfl) _ _ k1
        have c2' := row.cells (g := g) (by rw [ev]; rfl) _ _ k2
        have c3' := row.cells (g := g) (by rw [ev]; rfl) _ _ k3
        rw [add_flat] at c1' c2' c3'
        exact ⟨by rw [Nat.zero_add]; exact c1', by rw [Nat.zero_add]; exact c2', by rw [Nat.zero_add]; exact c3'⟩
    · exact ⟨a', _, c', a, c, 0, 0, ys, s, t, e1, e2, ⟨fun h => absurd h h0, hI.hn, hl, h1, h2, h3, h4, hb, hr, fun i y hy => by have := (List.getElem?_eq_some_iff.1 hy).1; omega⟩, g1, fun _ g hg => by cases hg⟩
/-- the i-th of them, in a later world -/
theorem Ch.nth {w w' : World} {lo hi B : Nat} {xs : List It} {a : Option Addr} {blk off : Nat} {ys : List (Bool × Value × Value)} {s t : Nat → Nat} (h : Ch w lo hi xs a blk off ys s t) (k : Below B w w') (hB : hi ≤ B) {i : Nat} (hi' : i < xs.length) :
    a = some ⟨blk, off, none⟩ ∧ ∃ x a1 n1 k1 a2 n2 k2, xs[i]? = some x ∧ x ∈ xs ∧ w'.cell? ⟨blk, off + i * 3, none⟩ = some (.bool x.l) ∧ w'.cell? ⟨blk, off + i * 3 + 1, none⟩ = some (.slice a1 n1 k1) ∧ w'.cell? ⟨blk, off + i * 3 + 2, none⟩ = some (.slice a2 n2 k2) ∧ Own w' (s i) (t i) x (.slice a1 n1 k1) (.slice a2 n2 k2) := by
  obtain ⟨e, hb⟩ := h.ha (by omega)
  obtain ⟨y, hy⟩ : ∃ y, ys[i]? = some y := ⟨_, List.getElem?_eq_getElem (by have := h.len; omega)⟩
  have hx := List.getElem?_eq_getElem hi'
  have ho := h.hr i _ y hx hy
  obtain ⟨a1, n1, k1, a2, n2, k2, e1, e2⟩ := ho.lies.form
  obtain ⟨c1, c2, c3⟩ := h.cell i y hy
  have h3 := h.h3 i hi'
  refine ⟨e, xs[i], a1, n1, k1, a2, n2, k2, hx, List.getElem_mem hi', ?_, ?_, ?_, ?_⟩
  · rw [k.cell (p := ⟨blk, off + i * 3, none⟩) (by show blk < B; omega), c1, h.hb i _ y hx hy]
  · rw [k.cell (p := ⟨blk, off + i * 3 + 1, none⟩) (by show blk < B; omega), c2, e1]
  · rw [k.cell (p := ⟨blk, off + i * 3 + 2, none⟩) (by show blk < B; omega), c3, e2]
  · rw [← e1, ← e2]
    exact ho.same (fun q q1 q2 => k.block q (by omega))
/-- WHAT IS GATHERED, of the first i items -/
structure Gr (w wr : World) (B lo hi : Nat) (xs : List It) (s : Nat → Nat) (u : Value) (Us0 Us : List Value) (m i : Nat) : Prop where
  own : wr.ownsRow B 22 1 u (Us0 ++ Us).length (Us0 ++ Us)
  below : Below B w wr
  gt : Gt w lo hi Us
  ord : ∀ v ∈ Us, ∀ g, v.ownBlock = some g → ∀ j, i ≤ j → j < xs.length → g < s j
  cnt : Us.length = m + nodesL (xs.take i)
  big : B ≤ wr.heap.size
theorem Gr.next {w wr w' : World} {B lo hi m i : Nat} {xs : List It} {a : Option Addr} {blk off : Nat} {ys : List (Bool × Value × Value)} {s t : Nat → Nat} {u u' : Value} {Us0 Us Us' : List Value} {o : Obj} {x : It} (h : Gr w wr B lo hi xs s u Us0 Us m i) (hc : Ch w lo hi xs a blk off ys s t) (hB : hi ≤ B) (hx : xs[i]? = some x)
    (own' : w'.ownsRow B 22 1 u' ((Us0 ++ Us) ++ Us').length ((Us0 ++ Us) ++ Us')) (gt' : Gt (wr.alloc o) (s i) (t i) Us') (cnt' : Us'.length = nodes x) (b' : Below B (wr.alloc o) w') : Gr w w' B lo hi xs s u' Us0 (Us ++ Us') m (i + 1) := by
  have hi' := (List.getElem?_eq_some_iff.1 hx).1
  have k1 := hc.h1 i hi'
  have k3 := hc.h3 i hi'
  have bA : Below B wr (wr.alloc o) := (below_alloc wr o).mono h.big
  have g2 : Gt w (s i) (t i) Us' := gt'.same (fun g hg => ((h.below.trans bA).block g (by omega)).symm)
  refine ⟨by rw [← List.append_assoc]; exact own', (h.below.trans bA).trans b', h.gt.app (g2.wide k1 k3) (fun u1 hu1 u2 hu2 g q1 q2 => ?_), fun v hv g hg j hj1 hj2 => ?_, by rw [List.length_append, h.cnt, cnt', nodesL_take hx, Nat.add_assoc], by have := b'.size; have := h.big; simp at *; omega⟩
  · have := h.ord u1 hu1 g q1 i (Nat.le_refl _) hi'
    have := g2.blk u2 hu2 g q2
    omega
  · rcases List.mem_append.1 hv with q | q
    · exact h.ord v q g hg j (by omega) hj2
    · have := g2.blk v q g hg
      have := ends_mono hc.h2 hc.h4 j i (by omega) hj2
      omega

set_option maxRecDepth 100000 in
set_option maxHeartbeats 3200000 in
theorem gather_any (B : Nat) : ∀ (x : It) (w : World) (lo hi : Nat) (vb vi v : Value) (Us0 : List Value), Own w lo hi x vb vi → hi ≤ B → B ≤ w.heap.size → w.ownsRow B 22 1 v Us0.length Us0 → Us0.length + nodes x ≤ 8388608 →
    Calls Try.prog 35 #[v, iv x.l vb vi] w fun e w' => ∃ v' Us, e = .returned v' ∧ w'.ownsRow B 22 1 v' (Us0 ++ Us).length (Us0 ++ Us) ∧ Gt w lo hi Us ∧ Us.length = nodes x ∧ Below B w w' := by
  refine It.ind (fun l b xs ih => ?_)
  intro w lo hi vb vi v Us0 h hhi hB hv hn
  show Calls Try.prog 35 #[v, iv l _ _] w _
  obtain ⟨a', n', c', a, c, blk, off, ys, s, t, rfl, rfl, hC, g1, nb⟩ := h.ch
  rw [nodes_mk] at hn
  obtain ⟨n, en⟩ : ∃ n, n = xs.length := ⟨_, rfl⟩
  have HN : Hid (n = xs.length ∧ nodes (.mk l b xs) = 1 + nodesL xs) := ⟨en, nodes_mk l b xs⟩
  have hn56 := hC.hn
  rw [← en] at hn56 ⊢
  obtain ⟨n0, en0⟩ : ∃ n0, n0 = Us0.length := ⟨_, rfl⟩
  have HN0 : Hid (n0 = Us0.length ∧ Us0.length + (1 + nodesL xs) ≤ 8388608) := ⟨en0, hn⟩
  obtain ⟨av, cv, ev⟩ := own_slice hv
  subst ev
  rw [← en0] at hv hn ⊢
  obtain ⟨wA, eA⟩ : ∃ wA, wA = (w.alloc (.cells #[.bool l, .slice a' n' c', .slice a n c] 25)).alloc (.cells #[.slice a' n' c'] 22) := ⟨_, rfl⟩
  have bA : Below w.heap.size w wA := by rw [eA]; exact ch (below_alloc _ _) (below_alloc _ _)
  have sA : wA.heap.size = w.heap.size + 2 := by rw [eA]; simp
  have yA : Bx wA w.heap.size 25 (.bool l) (.slice a' n' c') (.slice a n c) := by rw [eA]; exact (heap_alloc_old _ _ (by simp)).trans (heap_alloc_new _ _)
  have nw := World.news_of_block (w := wA) (B := w.heap.size + 1) (cs := #[.slice a' n' c']) (t := 22) (fr := (0, 0)) (by rw [eA]; have := heap_alloc_new (w.alloc (.cells #[.bool l, .slice a' n' c', .slice a n c] 25)) (.cells #[.slice a' n' c'] 22); rw [World.size_alloc] at this; exact this)
  have ownA : wA.ownsRow B 22 1 (.slice av n0 cv) n0 Us0 := own_same hv (fun g hg => bA.block g (hv.lt g hg).2)
  have HB9 : Hid (∀ w9, wA.grownBy w9 (Value.slice av n0 cv).ownBlock → Bx w9 w.heap.size 25 (.bool l) (.slice a' n' c') (.slice a n c) ∧ Below B w w9 ∧ B ≤ w9.heap.size) := fun w9 gr => by
    refine ⟨yA.keep (gr.block _ (by omega) (fun e => by have := (hv.lt _ e.symm).2; omega)), ?_, by have := gr.size; omega⟩
    exact (bA.mono hB).trans (grown_below gr ownA (Nat.le_refl _) (by omega))
  have HH : Hid (wA = (w.alloc (.cells #[.bool l, .slice a' n' c', .slice a n c] 25)).alloc (.cells #[.slice a' n' c'] 22) ∧ wA.ownsRow B 22 1 (.slice av n0 cv) n0 Us0 ∧ (∀ (j : Nat) (u : Value), #[Value.slice a' n' c'].toList[j]? = some u → wA.cell? ((⟨w.heap.size + 1, 0, none⟩ : Addr).add j) = some u) ∧ B ≤ wA.heap.size) := ⟨eA, ownA, nw, by omega⟩
  have HG1 : Hid (Gt w lo hi [.slice a' n' c'] ∧ (0 < xs.length → ∀ g, (Value.slice a' n' c').ownBlock ≠ some g) ∧ hi ≤ B) := ⟨g1, nb, hhi⟩
  have HC : Hid (Ch w lo hi xs a blk off ys s t) := hC
  obtain ⟨i0, hi0, hz0, hz1, hz2⟩ := info_parts infoB
  have HI : Hid (Try.prog.info? 22 = some i0 ∧ i0.zero = some nilS ∧ i0.size = 1 ∧ i0.bytes = 24) := ⟨hi0, hz0, hz1, hz2⟩
  clear h hhi hB hv eA bA sA yA nw ownA g1 nb hC hi0 hz0 hz1 hz2 en en0
  go_enter Try.func35, Try.ntmps35
  go_wp2_with (rw [← HH.out.1]; refine wpList_append_lies _ (by rfl) (.tmp 7) (.tmp 10) 50 (by rfl) B 22 i0 nilS 1 24 Try.underlying50 HI.out.1 HI.out.2.1 HI.out.2.2.1 HI.out.2.2.2 (by rfl) (by decide) (.slice av n0 cv) n0 Us0 (by rfl) HH.out.2.1 ⟨w.heap.size + 1, 0, none⟩ 1 1 [.slice a' n' c'] (by rfl) (by rfl) HH.out.2.2.1 (by simp [Value.oneCell']) (by decide) (by unfold maxLen; omega) (by omega) HH.out.2.2.2 _ (by rfl) ?_; intro g9 cap9 w9 own9 gr9 at9 lt9; obtain ⟨q9, b9, z9⟩ := HB9.out w9 gr9; obtain ⟨c90, c91, c92, -⟩ := q9.cells; have H9 : Hid (Gr w w9 B lo hi xs s (.slice (some ⟨g9, 0, none⟩) (n0 + 1) cap9) Us0 [.slice a' n' c'] 1 0) := ⟨by rw [List.length_append, ← HN0.out.1]; exact own9, b9, HG1.out.1, (fun v hv g hg j hj1 hj2 => by rw [List.mem_singleton] at hv; subst hv; exact absurd hg (HG1.out.2.1 (by omega) g)), by rw [List.take_zero, nodesL_nil]; rfl, z9⟩; clear own9 gr9 at9 lt9 q9 b9 z9)
  go_loopg [0, 15] n (fun gg u k wr => ∃ (i : Nat) (Us : List Value), i ≤ n ∧ gg = n - i ∧ k = .int .i64 i ∧ Gr w wr B lo hi xs s u Us0 Us 1 i)
  case atStart => exact ⟨0, _, Nat.zero_le _, rfl, rfl, H9.out⟩
  case round =>
    clear c90 c91 c92 H9
    obtain ⟨i, Us, hi', rfl, rfl, hG⟩ := hrel
    have HG : Hid (Gr w wr B lo hi xs s u0 Us0 Us 1 i) := hG
    by_cases hin : i < n
    · have i1 : (i : Int) < (n : Int) := by omega
      obtain ⟨rfl, x, a1, n1, k1, a2, n2, k2, hx, hxm, d0, d1, d2, hO⟩ := HC.out.nth hG.below HG1.out.2.2 (i := i) (by have := HN.out.1; omega)
      have h3 := HC.out.h3 i (by have := HN.out.1; omega)
      have K := ih x hxm (wr.alloc (.cells #[.bool x.l, .slice a1 n1 k1, .slice a2 n2 k2] 25)) (s i) (t i) _ _ u0 (Us0 ++ Us) (hO.same (fun q q1 q2 => heap_alloc_old _ _ (by have := HG1.out.2.2; have := hG.big; omega))) (by have := HG1.out.2.2; omega) (by have := hG.big; simp; omega) (hG.own.alloc _) (by
        rw [List.length_append, hG.cnt]
        have q1 := nodesL_take_le xs (i + 1)
        rw [nodesL_take hx] at q1
        have := HN0.out.2
        omega)
      obtain ⟨ar, cr, er⟩ := own_slice hG.own
      obtain ⟨nr, enr⟩ : ∃ nr, nr = (Us0 ++ Us).length := ⟨_, rfl⟩
      rw [← enr] at er
      subst er
      have HX : Hid (xs[i]? = some x) := hx
      clear hG hx hxm hO ih h3 enr
      go_wp2_with (go_at_call 35; refine K.mono ?_; rintro e w2 ⟨v2, Us2, rfl, own2, gt2, cnt2, b2⟩; have HY : Hid (Gr w w2 B lo hi xs s v2 Us0 (Us ++ Us2) 1 (i + 1)) := HG.out.next HC.out HG1.out.2.2 HX.out own2 gt2 cnt2 b2; clear own2 gt2 cnt2 b2)
      go_roundg (n - (i + 1))
      case measure => omega
      case rel => exact ⟨i + 1, _, hin, rfl, by go_num, HY.out⟩
    · have i1 : ¬ (i : Int) < (n : Int) := by omega
      have et : xs.take i = xs := List.take_of_length_le (by have := HN.out.1; omega)
      clear hG ih
      go_wp2_with fail
      go_ret
      exact ⟨_, rfl, Us, by have := HG.out.own; rw [List.length_append] at this; exact this, HG.out.gt, by rw [HG.out.cnt, et, HN.out.2], HG.out.below⟩
end Go.Proofs.Ytlpmcdnhnhgmpaa
