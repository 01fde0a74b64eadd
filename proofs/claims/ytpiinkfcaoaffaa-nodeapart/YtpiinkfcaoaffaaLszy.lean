import Derived.Test.YtpiinkfcaoaffaaHszy
import Derived.Test.YtpiinkfcaoaffaaRn0zy
/-
  lists, sameHashes; hashes appended and written over.
-/
namespace Go.Proofs.Ytpiinkfcaoaffaa
open Go.RowKit
/-- all lists of a node -/
def lsV (u : Nv) : List Value := (List.range 19).map u.at
theorem lsV_at (u : Nv) {i : Nat} (h : i < 19) : (lsV u)[i]? = some (u.at i) := by unfold lsV; rw [List.getElem?_map, List.getElem?_range h]; rfl
theorem lsV_len (u : Nv) : (lsV u).length = 19 := by simp [lsV]
def lsP (u : Nv) (i : Nat) : List Value := (List.range (3 + i)).map u.at
theorem lsP_step (u : Nv) (i : Nat) : lsP u (i + 1) = lsP u i ++ [u.k i] := by
  unfold lsP
  rw [show 3 + (i + 1) = (3 + i) + 1 by omega, List.range_succ, List.map_append, show 3 + i = i + 3 by omega]
  rfl
theorem lsP_len (u : Nv) (i : Nat) : (lsP u i).length = 3 + i := by simp [lsP]
theorem lsP_zero (u : Nv) : lsP u 0 = [u.p, u.v, u.x] := rfl
theorem lsP_all (u : Nv) : lsP u 16 = lsV u := rfl
/-- each list is a slice -/
def Sls (u : Nv) : Prop := ∀ i, i < 19 → ∃ a n c, u.at i = .slice a n c
theorem Nin.sls {w : World} {n : Nd} {u : Nv} (h : Nin w n u) : Sls u := fun i hi => by
  have f : ∀ {v : Value} {s : List Nat}, Vb w v s → ∃ a n c, v = .slice a n c := fun h => by
    obtain ⟨a, b, off, c, e, -⟩ := h
    exact ⟨a, _, c, e⟩
  match i with
  | 0 => exact f h.p
  | 1 => exact f h.v
  | 2 => exact f h.x
  | i + 3 => exact f (h.k (List.getElem?_eq_getElem (by rw [h.W.kids]; omega)))
set_option maxRecDepth 100000 in
set_option maxHeartbeats 1600000 in
theorem lists_any {w : World} {n : Nd} {u : Nv} (hn : n.W) (hs : Sls u) : Calls Try.prog 13 #[.agg (nc n u).toArray] w fun e w' => ∃ a c, e = .returned (.slice a 19 c) ∧ w'.ownsRow w.heap.size 22 1 (.slice a 19 c) 19 (lsV u) ∧ Below w.heap.size w w' := by
  have nb := nb_new hn w u
  have cp := nb.p
  have cv := nb.v
  have cx := (rng_ref hn.next.1 nb.x).2.2
  obtain ⟨a0, n0, c0, e0⟩ := hs 0 (by omega)
  obtain ⟨a1, n1, c1, e1⟩ := hs 1 (by omega)
  obtain ⟨a2, n2, c2, e2⟩ := hs 2 (by omega)
  have e0' : u.p = .slice a0 n0 c0 := e0
  have e1' : u.v = .slice a1 n1 c1 := e1
  have e2' : u.x = .slice a2 n2 c2 := e2
  rw [e0'] at cp
  rw [e1'] at cv
  rw [e2'] at cx
  have own0 := World.ownsRow_lit (base := w.heap.size + 1) (e := 22) (size := 1) (w.alloc (.cells (nc n u).toArray 29)) #[.slice a0 n0 c0, .slice a1 n1 c1, .slice a2 n2 c2] 3 (by rw [World.size_alloc]; omega) (by decide) rfl
  obtain ⟨i0, hi0, hz0, hz1, hz2⟩ := info_parts infoB
  have HI0 : Hid (Try.prog.info? 22 = some i0 ∧ i0.zero = some nilS ∧ i0.size = 1 ∧ i0.bytes = 24) := ⟨hi0, hz0, hz1, hz2⟩
  have HNB : Hid (Nb (w.alloc (.cells (nc n u).toArray 29)) w.heap.size n u ∧ Sls u) := ⟨nb, hs⟩
  have HS0 : Hid (((w.alloc (.cells (nc n u).toArray 29)).alloc (.cells #[.slice a0 n0 c0, .slice a1 n1 c1, .slice a2 n2 c2] 22)).ownsRow (w.heap.size + 1) 22 1 (.slice (some ⟨(w.alloc (.cells (nc n u).toArray 29)).heap.size, 0, none⟩) 3 3) 3 (lsP u 0)) := by
    have q := own0
    rw [lsP_zero, e0', e1', e2']
    exact q
  have sA : (w.alloc (.cells (nc n u).toArray 29)).heap.size = w.heap.size + 1 := by simp
  rw [sA] at HS0
  clear hi0 hz0 hz1 hz2 own0 nb e0 e1 e2 e0' e1' e2' hs sA
  go_enter Try.func13, Try.ntmps13
  go_wp2_with fail
  go_loopg [3, 4] 16 (fun gg v3 k wr => ∃ (i : Nat) (v : Value), i ≤ 16 ∧ gg = 16 - i ∧ v3 = v ∧ k = .int .i64 i ∧ wr.ownsRow (w.heap.size + 1) 22 1 v (3 + i) (lsP u i) ∧ Below (w.heap.size + 1) (w.alloc (.cells (nc n u).toArray 29)) wr)
  case atStart => exact ⟨0, _, by omega, rfl, rfl, rfl, HS0.out, (below_alloc _ _).mono (by simp)⟩
  case round =>
    obtain ⟨i, v9, hi, rfl, e9, rfl, ho, hb⟩ := hrel
    subst e9
    clear HS0
    have hb2 : Below (w.alloc (.cells (nc n u).toArray 29)).heap.size (w.alloc (.cells (nc n u).toArray 29)) wr := by rw [World.size_alloc]; exact hb
    by_cases hin : i < 16
    · have i1 : (i : Int) < 16 := by omega
      obtain ⟨r, hr⟩ : ∃ r, n.kids[i]? = some r := ⟨_, List.getElem?_eq_getElem (by rw [hn.kids]; exact hin)⟩
      have cn := (rng_ref (hn.kid r (List.mem_of_getElem? hr)).1 ((HNB.out.1.keep hb2).kid hr)).2.2
      obtain ⟨a3, n3, c3, e3⟩ := HNB.out.2 (i + 3) (by omega)
      have e3' : u.k i = .slice a3 n3 c3 := e3
      rw [e3'] at cn
      have ownA := own_same ho (w' := wr.alloc (.cells #[.slice a3 n3 c3] 22)) (fun g hg => heap_alloc_old _ _ (ho.lt g hg).2)
      have HE : Hid (u.k i = .slice a3 n3 c3) := e3'
      have HX : Hid (wr.ownsRow (w.heap.size + 1) 22 1 u3 (3 + i) (lsP u i) ∧ Below (w.heap.size + 1) (w.alloc (.cells (nc n u).toArray 29)) wr) := ⟨ho, hb⟩
      have ls : w.heap.size + 1 ≤ wr.heap.size := by have := hb.size; rw [World.size_alloc] at this; omega
      clear ho hb hb2 hr e3 e3'
      go_wp2_with (refine wpList_append_lies _ (by rfl) (.tmp 17) (.tmp 23) 44 (by rfl) (w.heap.size + 1) 22 i0 nilS 1 24 Try.underlying44 HI0.out.1 HI0.out.2.1 HI0.out.2.2.1 HI0.out.2.2.2 (by rfl) (by decide) u3 (3 + i) (lsP u i) (by rfl) ownA ⟨wr.heap.size, 0, none⟩ 1 1 [.slice a3 n3 c3] (by rfl) (by rfl) (World.news_of_block (w := wr.alloc (.cells #[.slice a3 n3 c3] 22)) (B := wr.heap.size) (cs := #[.slice a3 n3 c3]) (t := 22) (fr := (0, 0)) (heap_alloc_new _ _)) (by simp [Value.oneCell']) (by decide) (by unfold maxLen; omega) (by omega) (Nat.le_trans ls (below_alloc wr _).size) _ (by rfl) ?_; intro g9 cap9 w9 own9 gr9 at9 lt9; have H9 : Hid (w9.ownsRow (w.heap.size + 1) 22 1 (.slice (some ⟨g9, 0, none⟩) (3 + i + 1) cap9) (3 + i + 1) (lsP u i ++ [.slice a3 n3 c3]) ∧ Below (w.heap.size + 1) (w.alloc (.cells (nc n u).toArray 29)) w9) := ⟨own9, HX.out.2.trans (own_below HX.out.1 gr9 (Nat.le_refl _) ls)⟩; clear own9 gr9 at9 lt9)
      go_roundg (16 - (i + 1))
      case measure => omega
      case rel =>
        refine ⟨i + 1, _, hin, rfl, rfl, by go_num, ?_, H9.out.2⟩
        rw [lsP_step, HE.out]
        exact H9.out.1
    · have i1 : ¬ (i : Int) < 16 := by omega
      obtain rfl : i = 16 := by omega
      obtain ⟨a9, c9, rfl⟩ := own_slice ho
      have HX : Hid (wr.ownsRow w.heap.size 22 1 (.slice a9 19 c9) 19 (lsV u) ∧ Below w.heap.size w wr) := ⟨own_rebase ho (fun g hg => by have := (ho.lt g hg).1; omega), (below_alloc w _).trans (hb.mono (by omega))⟩
      clear ho hb hb2
      go_wp2_with fail
      go_ret
      exact ⟨a9, c9, rfl, HX.out.1, HX.out.2⟩
theorem hc_len {l : List (List Nat)} (h : ∀ x ∈ l, x.length = 32) : (hc l).length = l.length * 32 := by
  induction l with
  | nil => rfl
  | cons a r ih =>
    have e : hc (a :: r) = bv a ++ hc r := by simp [hc]
    rw [e, List.length_append, bv_len, h a (by simp), ih (fun x hx => h x (by simp [hx])), List.length_cons]
    omega
theorem hc_oneCell (l : List (List Nat)) : ∀ v ∈ hc l, v.oneCell' = true := fun v hv => by
  obtain ⟨x, -, hx⟩ := List.mem_flatMap.1 hv
  exact bv_one x v hx
theorem hc_rng {w : World} {g o : Nat} {l : List (List Nat)} (h : ∀ x ∈ l, x.length = 32) (hr : w.rangeAt g o (hc l)) {i : Nat} {x : List Nat} (hx : l[i]? = some x) : w.rangeAt g (o + i * 32) (bv x) := by
  induction l generalizing o i with
  | nil => simp at hx
  | cons a r ih =>
    have e : hc (a :: r) = bv a ++ hc r := by simp [hc]
    rw [e] at hr
    cases i with
    | zero =>
      simp at hx
      subst hx
      simpa using rng_left hr
    | succ i =>
      have q := rng_right hr
      rw [bv_len, h a (by simp)] at q
      have := ih (fun x hx => h x (by simp [hx])) q (i := i) (by simpa using hx)
      rw [show o + 32 + i * 32 = o + (i + 1) * 32 by omega] at this
      exact this
/-- where a list of hashes lies -/
theorem Hl.at_ {B : Nat} {w : World} {v : Value} {l : List (List Nat)} (h : Hl B w v l) : (v = .slice none 0 0 ∧ l = []) ∨ ∃ g c, v = .slice (some ⟨g, 0, none⟩) l.length c ∧ B ≤ g ∧ g < w.heap.size ∧ w.rangeAt g 0 (hc l) ∧ w.there g 0 (l.length * 32) := by
  have hlt := h.own.lt
  have hcs := h.own
  rcases h.own.2 with ⟨e, h0⟩ | ⟨g, cap, cur, e, hB, hg, hc', hm, hsz, htk⟩
  · exact Or.inl ⟨e, List.eq_nil_of_length_eq_zero h0⟩
  · right
    have q := hlt g (by rw [e]; rfl)
    refine ⟨g, cap, e, hB, q.2, fun j z hz => ?_, fun j hj => ⟨?_, frozen_of_row w g _ _ _ hg⟩⟩
    · have := hcs.cells (g := g) (by rw [e]; rfl) j z hz
      rw [add_flat] at this
      rw [Nat.zero_add]
      exact this
    · rw [Nat.zero_add, cell_of_row _ _ _ _ _ _ hg]
      have hj2 : j < cur.size := by
        have : l.length * 32 ≤ cap * 32 := Nat.mul_le_mul_right _ hc'
        omega
      rw [Array.getElem?_eq_getElem hj2]
      rfl
theorem wpList_append_hl {ops : Array Oper} {rest : List Oper} {o : Oper} {a : Act} {w : World} {Q : Exit → Act → World → Prop} (hgd : o.guard = none) (s x : Operand) (ho : o.op = .call { callee := .builtin .append, args := #[s, x], argTypes := #[40, 40] })
    (base B : Nat) (v hv : Value) (l : List (List Nat)) (hs : a.eval s = v) (hown : w.ownsRow base 24 32 v 0 []) (hx : a.eval x = hv) (hl : Hl B w hv l) (hbase : base ≤ w.heap.size)
    (h : ∀ v' w', Hl base w' v' l → w.grownBy w' v.ownBlock → wpList Try.prog ops Q rest (a.put o.dst v') w') : wpList Try.prog ops Q (o :: rest) a w := by
  obtain ⟨i0, hi0, hz0, hz1, hz2⟩ := info_parts info41
  have h32 : ∀ x ∈ l, x.length = 32 := fun x hx => (hl.ok x hx).1
  have hlen := hl.len
  rcases hl.at_ with ⟨e, e2⟩ | ⟨g, c, e, hB, hg, hr, -⟩
  · refine wpList_append_own_none hgd s x 40 ho base 24 i0 32 Try.underlying40 hi0 v 0 [] hs hown (by rw [hx, e]) ?_
    refine h v w ?_ ⟨rfl, rfl, rfl, Nat.le_refl _, fun _ _ _ => rfl⟩
    subst e2
    exact ⟨hown, fun h hh => (by cases hh), by simp⟩
  · refine wpList_append_own _ hgd s x 40 ho base 24 i0 (.agg (bv z32).toArray) 32 32 Try.underlying40 hi0 hz0 hz1 hz2 rfl (by decide) v 0 [] hs hown ⟨g, 0, none⟩ l.length c (hc l) (by rw [hx, e]) (hc_len h32) ?_ (hc_oneCell l) (by unfold maxLen; omega) (by omega) hbase (fun v' w' h1 h2 h3 => h v' w' ⟨by rw [List.nil_append, Nat.zero_add] at h1; exact h1, hl.ok, hl.len⟩ h2)
    intro j z hz
    have := hr j z hz
    rw [Go.WideShapes.add_plain]
    exact this
section
variable {ops : Array Oper} {S : World → Prop} {o : Oper} {a : Act}
theorem y_i41 (hw : Region.wanted o (yielded ops a.tmps) = true) (x i : Operand) (ho : o.op = .indexAddr 40 x i) (g n c j : Nat) (hx : a.eval x = .slice (some ⟨g, 0, none⟩) n c) (hi : a.eval i = .int .i64 j) (hj : j < n) : YieldsIf Try.prog ops S o (.pointer (some ⟨g, j * 32, none⟩)) a :=
  .inl ⟨hw, fun w _ => by
    have q : (j : Int) < (n : Int) := by omega
    unfold execOp
    simp only [ho, hx, hi]
    go_simp⟩
theorem y_neqHe (hw : Region.wanted o (yielded ops a.tmps) = true) (x y : Operand) (ho : o.op = .binOp .neq 24 x y 24) (u : Array Value) (hx : a.eval x = .agg u) (hy : a.eval y = .agg u) (he : ∀ w0 : World, (Op.equalIn 10000 24 (.agg u) (.agg u)).run Try.prog w0 = .ok true w0) : YieldsIf Try.prog ops S o (.bool false) a :=
  .inl ⟨hw, fun w _ => by
    have e := he w
    unfold execOp
    simp only [ho, hx, hy]
    go_simp⟩
end
set_option maxRecDepth 100000 in
set_option maxHeartbeats 1600000 in
theorem sameH_any {w : World} {B B' : Nat} {v v' : Value} {l : List (List Nat)} (h : Hl B w v l) (h' : Hl B' w v' l) : Calls Try.prog 14 #[v, v'] w fun e w' => e = .returned (.bool true) ∧ Below w.heap.size w w' := by
  obtain ⟨n, en⟩ : ∃ n, n = l.length := ⟨_, rfl⟩
  have hlen := h.len
  rw [← en] at hlen
  have HN : Hid (n = l.length) := en
  have h32 : ∀ x ∈ l, x.length = 32 := fun x hx => (h.ok x hx).1
  have hf : ∃ a c, v = .slice a n c := by
    rcases h.at_ with ⟨e, e2⟩ | ⟨g, c, e, -⟩
    · exact ⟨none, 0, by rw [e, en, e2]; rfl⟩
    · exact ⟨_, c, by rw [e, en]⟩
  have hf' : ∃ a c, v' = .slice a n c := by
    rcases h'.at_ with ⟨e, e2⟩ | ⟨g, c, e, -⟩
    · exact ⟨none, 0, by rw [e, en, e2]; rfl⟩
    · exact ⟨_, c, by rw [e, en]⟩
  obtain ⟨a, c, rfl⟩ := hf
  obtain ⟨a', c', rfl⟩ := hf'
  have HR : Hid (∀ i, i < n → ∃ x g g', a = some ⟨g, 0, none⟩ ∧ a' = some ⟨g', 0, none⟩ ∧ x.length = 32 ∧ (∀ y ∈ x, y < 256) ∧ w.rangeAt g (i * 32) (bv x) ∧ w.rangeAt g' (i * 32) (bv x)) := fun i hi => by
    have hi' : i < l.length := by rw [← en]; exact hi
    rcases h.at_ with ⟨e, e2⟩ | ⟨g, c1, e, -, -, hr, -⟩
    · rw [e2] at hi'; simp at hi'
    · rcases h'.at_ with ⟨e', e2⟩ | ⟨g', c2, e', -, -, hr', -⟩
      · rw [e2] at hi'; simp at hi'
      · injection e with e1
        injection e' with e1'
        have hx := List.getElem?_eq_getElem hi'
        have q := hc_rng h32 hr hx
        have q' := hc_rng h32 hr' hx
        rw [Nat.zero_add] at q q'
        exact ⟨_, g, g', e1, e1', h32 _ (List.getElem_mem _), (h.ok _ (List.getElem_mem _)).2, q, q'⟩
  clear h h' h32 en
  have jn : ((n : Int) != (n : Int)) = false := by simp
  go_enter Try.func14, Try.ntmps14
  go_wp2_with fail
  go_loopg [13] n (fun gg k wr => ∃ (i q : Nat), i ≤ n ∧ gg = n - i ∧ k = .int .i64 i ∧ wr = w.drewN q)
  case atStart => exact ⟨0, 0, by omega, rfl, rfl, rfl⟩
  case round =>
    obtain ⟨i, q, hi, rfl, rfl, rfl⟩ := hrel
    by_cases hin : i < n
    · have i1 : (i : Int) < n := by omega
      obtain ⟨x, g, g', rfl, rfl, x32, xb, hr, hr'⟩ := HR.out i hin
      have heq := fun w0 => eq_hash w0 x x x32 xb x32 xb
      simp only [decide_true] at heq
      have HQ : Hid (∀ w' : World, w' = (w.drewN q).drew → w'.rangeAt g (i * 32) (bv x) ∧ w'.rangeAt g' (i * 32) (bv x)) := fun w' e => by subst e; exact ⟨rng_same hr rfl, rng_same hr' rfl⟩
      clear hr hr'
      go_upto_region 6 with (fail)
      refine wp_region_held_drew (S := fun w' => w' = (w.drewN q).drew) (by kernel_rfl) (rfl) ?_
      intro hS
      change wpAnyH _ _ _ _ _ 9 _ _ _
      refine wpAnyH_take (i := 0) (v := (.slice (some ⟨g, 0, none⟩) n c)) (by simp only [List.getElem?_toArray, List.getElem?_cons_zero]; rfl) (by kernel_rfl) (by kernel_rfl) (by kernel_rfl) (by exact fun _ _ _ h => h) (y_move (by kernel_rfl) _ rfl _ rfl) hS ?_
      try simp only [Act.put, List.setIfInBounds_toArray, List.set_cons_zero, List.set_cons_succ]
      refine wpAnyH_take (i := 1) (v := (.int .i64 i)) (by simp only [List.getElem?_toArray, List.getElem?_cons_zero, List.getElem?_cons_succ]; rfl) (by kernel_rfl) (by kernel_rfl) (by kernel_rfl) (by exact fun _ _ _ h => h) (y_move (by kernel_rfl) _ rfl _ rfl) hS ?_
      try simp only [Act.put, List.setIfInBounds_toArray, List.set_cons_zero, List.set_cons_succ]
      refine wpAnyH_take (i := 2) (v := (.pointer (some ⟨g, i * 32, none⟩))) (by simp only [List.getElem?_toArray, List.getElem?_cons_zero, List.getElem?_cons_succ]; rfl) (by kernel_rfl) (by kernel_rfl) (by kernel_rfl) (by exact fun _ _ _ h => h) (y_i41 (by kernel_rfl) _ _ rfl _ n c i rfl rfl hin) hS ?_
      try simp only [Act.put, List.setIfInBounds_toArray, List.set_cons_zero, List.set_cons_succ]
      refine wpAnyH_take (i := 3) (v := (.agg (bv x).toArray)) (by simp only [List.getElem?_toArray, List.getElem?_cons_zero, List.getElem?_cons_succ]; rfl) (by kernel_rfl) (by kernel_rfl) (by kernel_rfl) (by exact fun _ _ _ h => h) (y_ld24 (by kernel_rfl) _ rfl _ _ rfl x x32 (fun w' hs => (HQ.out w' hs).1)) hS ?_
      try simp only [Act.put, List.setIfInBounds_toArray, List.set_cons_zero, List.set_cons_succ]
      refine wpAnyH_take (i := 4) (v := (.slice (some ⟨g', 0, none⟩) n c')) (by simp only [List.getElem?_toArray, List.getElem?_cons_zero, List.getElem?_cons_succ]; rfl) (by kernel_rfl) (by kernel_rfl) (by kernel_rfl) (by exact fun _ _ _ h => h) (y_move (by kernel_rfl) _ rfl _ rfl) hS ?_
      try simp only [Act.put, List.setIfInBounds_toArray, List.set_cons_zero, List.set_cons_succ]
      refine wpAnyH_take (i := 5) (v := (.int .i64 i)) (by simp only [List.getElem?_toArray, List.getElem?_cons_zero, List.getElem?_cons_succ]; rfl) (by kernel_rfl) (by kernel_rfl) (by kernel_rfl) (by exact fun _ _ _ h => h) (y_move (by kernel_rfl) _ rfl _ rfl) hS ?_
      try simp only [Act.put, List.setIfInBounds_toArray, List.set_cons_zero, List.set_cons_succ]
      refine wpAnyH_take (i := 6) (v := (.pointer (some ⟨g', i * 32, none⟩))) (by simp only [List.getElem?_toArray, List.getElem?_cons_zero, List.getElem?_cons_succ]; rfl) (by kernel_rfl) (by kernel_rfl) (by kernel_rfl) (by exact fun _ _ _ h => h) (y_i41 (by kernel_rfl) _ _ rfl _ n c' i rfl rfl hin) hS ?_
      try simp only [Act.put, List.setIfInBounds_toArray, List.set_cons_zero, List.set_cons_succ]
      refine wpAnyH_take (i := 7) (v := (.agg (bv x).toArray)) (by simp only [List.getElem?_toArray, List.getElem?_cons_zero, List.getElem?_cons_succ]; rfl) (by kernel_rfl) (by kernel_rfl) (by kernel_rfl) (by exact fun _ _ _ h => h) (y_ld24 (by kernel_rfl) _ rfl _ _ rfl x x32 (fun w' hs => (HQ.out w' hs).2)) hS ?_
      try simp only [Act.put, List.setIfInBounds_toArray, List.set_cons_zero, List.set_cons_succ]
      refine wpAnyH_take (i := 8) (v := (.bool false)) (by simp only [List.getElem?_toArray, List.getElem?_cons_zero, List.getElem?_cons_succ]; rfl) (by kernel_rfl) (by kernel_rfl) (by kernel_rfl) (by exact fun _ _ _ h => h) (y_neqHe (by kernel_rfl) _ _ rfl _ rfl rfl heq) hS ?_
      try simp only [Act.put, List.setIfInBounds_toArray, List.set_cons_zero, List.set_cons_succ]
      refine wpAnyH_done (by kernel_rfl) ?_ _
      clear hS
      go_wp2_with fail
      go_roundg (n - (i + 1))
      case measure => omega
      case rel => exact ⟨i + 1, q + 1, hin, rfl, by go_num, rfl⟩
    · have i1 : ¬ (i : Int) < n := by omega
      go_wp2_with fail
      go_ret
      exact ⟨rfl, below_drewN (Below.refl _ _) q⟩
end Go.Proofs.Ytpiinkfcaoaffaa
