import Derived.Test.YtepeolbbplodfaaGreatDoorNdq
import Derived.Test.YtepeolbbplodfaaGreatDoorYrq
import Derived.Deep.MidRow
import Derived.Deep.WholeRow
import Derived.Deep.Upon
import Derived.DeepKeys
import Derived.Test.YtepeolbbplodfaaGreatDoorONbq
/-
  A node in memory: its cells.
-/
namespace Go.Proofs.YtepeolbbplodfaaGreatDoor
open Go.RowKit

/-! ### ranges -/
theorem rng_left {w : World} {b o : Nat} {xs ys : List Value} (h : w.rangeAt b o (xs ++ ys)) : w.rangeAt b o xs := fun j v hv => h j v (by rw [List.getElem?_append_left (List.getElem?_eq_some_iff.1 hv).1]; exact hv)
theorem rng_right {w : World} {b o : Nat} {xs ys : List Value} (h : w.rangeAt b o (xs ++ ys)) : w.rangeAt b (o + xs.length) ys := fun j v hv => by
  have := h (xs.length + j) v (by rw [List.getElem?_append_right (by omega), Nat.add_sub_cancel_left]; exact hv)
  rw [← Nat.add_assoc] at this
  exact this
theorem rng_app {w : World} {b o : Nat} {xs ys : List Value} (h1 : w.rangeAt b o xs) (h2 : w.rangeAt b (o + xs.length) ys) : w.rangeAt b o (xs ++ ys) := fun j v hv => by
  by_cases hj : j < xs.length
  · rw [List.getElem?_append_left hj] at hv
    exact h1 j v hv
  · rw [List.getElem?_append_right (by omega)] at hv
    have := h2 (j - xs.length) v hv
    rw [show o + xs.length + (j - xs.length) = o + j by omega] at this
    exact this
theorem rng_head {w : World} {b o : Nat} {x : Value} {xs : List Value} (h : w.rangeAt b o (x :: xs)) : w.cell? ⟨b, o, none⟩ = some x ∧ w.rangeAt b (o + 1) xs :=
  ⟨h 0 x rfl, fun j v hv => by
    have := h (j + 1) v (by simpa using hv)
    rw [show o + (j + 1) = o + 1 + j by omega] at this
    exact this⟩
theorem rng_new (w : World) (cs : List Value) (t : TypeId) : (w.alloc (.cells cs.toArray t)).rangeAt w.heap.size 0 cs := fun j v hv => by
  rw [cell_of_row _ _ _ _ _ _ (heap_alloc_new w _), Nat.zero_add]
  simpa using hv
theorem rng_lt {w : World} {b o : Nat} {cs : List Value} (h : w.rangeAt b o cs) (h0 : 0 < cs.length) : b < w.heap.size := World.block_lt_of_cell? _ _ (h 0 _ (List.getElem?_eq_getElem h0))
theorem rng_same {w w' : World} {b o : Nat} {cs : List Value} (h : w.rangeAt b o cs) (k : w'.heap[b]? = w.heap[b]?) : w'.rangeAt b o cs := fun j v hv => (World.cell?_of_block (w := w) k).trans (h j v hv)
theorem rng_keep {w w' : World} {b o : Nat} {cs : List Value} (h : w.rangeAt b o cs) (k : Below w.heap.size w w') : w'.rangeAt b o cs := fun j v hv => by
  have h1 := h j v hv
  rw [k.cell (World.block_lt_of_cell? _ _ h1)]
  exact h1
theorem rng_row {w : World} {b : Nat} {cs : List Value} {t : TypeId} {fr : Nat × Nat} (h : w.heap[b]? = some (.cells cs.toArray t fr)) : w.rangeAt b 0 cs := fun j v hv => by
  rw [cell_of_row _ _ _ _ _ _ h, Nat.zero_add]
  simpa using hv

/-! ### a whole struct loaded in a guarded place -/
section
variable {ops : Array Oper} {rest : List Oper} {op : Oper} {a : Act} {w : World} {Q : Exit → Act → World → Prop}
theorem wpList_g {P : Program} (hw : Region.wanted op (yielded ops a.tmps) = true) (h : op.wp P a w (wpList P ops Q rest) Q) : wpList P ops Q (op :: rest) a w := by
  unfold wpList
  rw [if_pos hw]
  exact Or.inl h
theorem wpList_load_mid_g {P : Program} (hw : Region.wanted op (yielded ops a.tmps) = true) (ty : TypeId) (x : Operand) (ho : op.op = .load ty x)
    (b o : Nat) (hx : a.eval x = .pointer (some ⟨b, o, none⟩)) (cs : List Value) (d : TypeDesc) (hc : w.rangeAt b o cs)
    (hu : P.underlying ty = some d) (hd : d.isRow = true) (hi : (P.info? ty).map (·.size) = some cs.length)
    (h : wpList P ops Q rest (a.put op.dst (.agg cs.toArray)) w) : wpList P ops Q (op :: rest) a w :=
  wpList_g hw (wp_load_mid ty x ho b o hx cs d hc hu hd hi h)
end

/-! ### a hash -/
theorem info24 : (Tryz.prog.info? 31).map (·.size) = some 32 := by kernel_rfl
theorem info26 : (Tryz.prog.info? 107).map (·.size) = some 34 := by kernel_rfl
theorem info29 : (Tryz.prog.info? 110).map (·.size) = some 582 := by kernel_rfl
theorem mapM_some {α β : Type} (f : α → Option β) (g : α → β) : ∀ l : List α, (∀ x ∈ l, f x = some (g x)) → l.mapM f = some (l.map g)
  | [], _ => rfl
  | x :: l, h => by
    rw [List.mapM_cons, h x (by simp), mapM_some f g l (fun y hy => h y (by simp [hy]))]
    rfl
theorem lits24 (s : List Nat) (hs : s.length = 32) (hf : ∀ x ∈ s, x < 256) :
    Tryz.prog.keyLits 2 31 (bv s) = some (((List.range 32).map (fun i => [Lit.int .u8 (gd s i : Nat)])).flatten) := by
  have c26 : Tryz.prog.cellsOf 31 = 32 := by kernel_rfl
  have c5 : Tryz.prog.cellsOf 5 = 1 := by kernel_rfl
  unfold Program.keyLits
  rw [Tryz.underlying31]
  simp only [bv_len, hs, c26, if_true]
  rw [mapM_some _ (fun i => [Lit.int .u8 (gd s i : Nat)]) (List.range 32) ?_]
  · rfl
  · intro i hi
    have hi' : i < 32 := by simpa using hi
    have e : ((bv s).drop (i * Tryz.prog.cellsOf 5)).take (Tryz.prog.cellsOf 5) = [.int .u8 (gd s i : Nat)] := by
      rw [c5, Nat.mul_one]
      have h2 := bv_at (s := s) (i := i) (by omega)
      rw [List.getElem?_eq_getElem (by rw [bv_len]; omega)] at h2
      rw [List.drop_eq_getElem_cons (by rw [bv_len]; omega)]
      simp only [List.take_succ_cons, List.take_zero]
      rw [Option.some.inj h2]
    rw [e]
    unfold Program.keyLits
    rw [Tryz.underlying5]
    have wf : (Lit.int .u8 (gd s i : Nat)).wf = true := by
      have := gd_lt hf i
      simp [Lit.wf, IntKind.min, IntKind.max, IntKind.bits, IntKind.signed]
      omega
    simp only [wf, and_self, if_true]
theorem flat1 {α : Type} (f : Nat → α) (l : List Nat) : (l.map (fun i => [f i])).flatten = l.map f := by
  induction l with
  | nil => rfl
  | cons a t ih => simp [ih]
theorem lit_iff (s t : List Nat) (hs : s.length = 32) (ht : t.length = 32) : ((List.range 32).map (fun i => [Lit.int .u8 (gd s i : Nat)])).flatten = ((List.range 32).map (fun i => [Lit.int .u8 (gd t i : Nat)])).flatten ↔ s = t := by
  rw [flat1 (fun i => Lit.int .u8 (gd s i : Nat)), flat1 (fun i => Lit.int .u8 (gd t i : Nat))]
  constructor
  · intro h
    refine ext_gd (by omega) (fun i hi => ?_)
    have h2 : ((List.range 32).map (fun i => Lit.int .u8 (gd s i : Nat)))[i]? = ((List.range 32).map (fun i => Lit.int .u8 (gd t i : Nat)))[i]? := by rw [h]
    rw [List.getElem?_map, List.getElem?_map, List.getElem?_range (by omega)] at h2
    have h3 := Option.some.inj h2
    injection h3 with _ h4
    exact Int.ofNat.inj h4
  · rintro rfl
    rfl
/-- TWO HASHES COMPARED -/
theorem eq_hash (w : World) (s t : List Nat) (hs : s.length = 32) (hf : ∀ x ∈ s, x < 256) (ht : t.length = 32) (hg : ∀ x ∈ t, x < 256) :
    (Op.equalIn 10000 31 (.agg (bv s).toArray) (.agg (bv t).toArray)).run Tryz.prog w = .ok (decide (s = t)) w := by
  have K : Tryz.prog.keyTypeAt 2 31 = true := by kernel_rfl
  have c26 : Tryz.prog.cellsOf 31 = 32 := by kernel_rfl
  have fm : ∀ r : List Nat, r.length = 32 → (Value.agg (bv r).toArray).formed Tryz.prog 31 = true := fun r hr => by
    unfold Value.formed
    rw [Tryz.underlying31, c26]
    show ((bv r).toArray.size == 32) = true
    simp [bv_len, hr]
  have kl := lits24 s hs hf
  have kl' := lits24 t ht hg
  obtain ⟨r, hr, hiff⟩ := run_equalIn_deep 9998 2 31 K w 2 2 (.agg (bv s).toArray) (.agg (bv t).toArray) _ _ (fm s hs) (fm t ht) (by simpa [Value.cells] using kl) (by simpa [Value.cells] using kl')
  have e : r = decide (s = t) := by
   rw [Bool.eq_iff_iff, hiff, decide_eq_true_eq]
   exact lit_iff s t hs ht
  rw [hr, e]

/-! ### the cells -/
def rcs (r : Rf) (v : Value) : List Value := .int .i64 r.k :: (bv r.h ++ [v])
theorem rcs_len {r : Rf} (h : r.h.length = 32) (v : Value) : (rcs r v).length = 34 := by simp [rcs, bv_len, h]
/-- a ref that lies there -/
theorem rng_ref {w : World} {b o : Nat} {r : Rf} {v : Value} (hh : r.h.length = 32) (h : w.rangeAt b o (rcs r v)) : w.cell? ⟨b, o, none⟩ = some (.int .i64 r.k) ∧ w.rangeAt b (o + 1) (bv r.h) ∧ w.cell? ⟨b, o + 33, none⟩ = some v := by
  obtain ⟨h1, h2⟩ := rng_head h
  refine ⟨h1, rng_left h2, ?_⟩
  have h3 := rng_right h2
  rw [bv_len, hh] at h3
  have := h3 0 v rfl
  rw [show o + 1 + 32 + 0 = o + 33 by omega] at this
  exact this
/-- THE VALUES OF A NODE's LISTS -/
structure Nv where
  p : Value
  v : Value
  x : Value
  k : Nat → Value
def kcs : List Rf → (Nat → Value) → List Value
  | [], _ => []
  | r :: l, k => rcs r (k 0) ++ kcs l (fun i => k (i + 1))
theorem kcs_len {l : List Rf} (h : ∀ r ∈ l, r.h.length = 32) : ∀ k : Nat → Value, (kcs l k).length = l.length * 34 := by
  induction l with
  | nil => intro k; rfl
  | cons r l ih =>
    intro k
    rw [kcs, List.length_append, rcs_len (h r (by simp)), ih (fun q hq => h q (by simp [hq])), List.length_cons]
    omega
theorem rng_kid {w : World} {b : Nat} {l : List Rf} (h : ∀ r ∈ l, r.h.length = 32) : ∀ {o : Nat} {k : Nat → Value}, w.rangeAt b o (kcs l k) → ∀ {i : Nat} {r : Rf}, l[i]? = some r → w.rangeAt b (o + i * 34) (rcs r (k i)) := by
  induction l with
  | nil => intro o k _ i r hr; simp at hr
  | cons q l ih =>
    intro o k hR i r hr
    rw [kcs] at hR
    cases i with
    | zero =>
      simp at hr
      subst hr
      simpa using rng_left hR
    | succ i =>
      have := rng_right hR
      rw [rcs_len (h q (by simp))] at this
      have := ih (fun q hq => h q (by simp [hq])) this (i := i) (r := r) (by simpa using hr)
      rw [show o + 34 + i * 34 = o + (i + 1) * 34 by omega] at this
      exact this
theorem kcs_congr {l : List Rf} : ∀ {k k' : Nat → Value}, (∀ i, i < l.length → k i = k' i) → kcs l k = kcs l k' := by
  induction l with
  | nil => intro k k' _; rfl
  | cons q l ih =>
    intro k k' h
    rw [kcs, kcs, h 0 (by simp), ih (fun i hi => h (i + 1) (by simpa using hi))]
/-- A NODE's CELLS -/
def nc (n : Nd) (u : Nv) : List Value := .int .i64 n.k :: u.p :: u.v :: .bool n.full :: (rcs n.next u.x ++ kcs n.kids u.k)
theorem nc_len {n : Nd} (h : n.W) (u : Nv) : (nc n u).length = 582 := by
  simp only [nc, List.length_cons, List.length_append]
  rw [rcs_len h.next.1, kcs_len (fun r hr => (h.kid r hr).1), h.kids]
theorem info_nc {n : Nd} (h : n.W) (u : Nv) : (Tryz.prog.info? 110).map (·.size) = some (nc n u).length := by rw [nc_len h]; exact info29
theorem info_rcs {r : Rf} (h : r.h.length = 32) (v : Value) : (Tryz.prog.info? 107).map (·.size) = some (rcs r v).length := by rw [rcs_len h]; exact info26
theorem info_bv {s : List Nat} (h : s.length = 32) : (Tryz.prog.info? 31).map (·.size) = some (bv s).length := by rw [bv_len, h]; exact info24
/-- A NODE THAT LIES IN A BLOCK -/
structure Nb (w : World) (b : Nat) (n : Nd) (u : Nv) : Prop where
  k : w.cell? ⟨b, 0, none⟩ = some (.int .i64 n.k)
  p : w.cell? ⟨b, 1, none⟩ = some u.p
  v : w.cell? ⟨b, 2, none⟩ = some u.v
  f : w.cell? ⟨b, 3, none⟩ = some (.bool n.full)
  x : w.rangeAt b 4 (rcs n.next u.x)
  kid : ∀ {i : Nat} {r : Rf}, n.kids[i]? = some r → w.rangeAt b (38 + i * 34) (rcs r (u.k i))
  all : w.rangeAt b 0 (nc n u)
theorem nb_of {w : World} {b : Nat} {n : Nd} {u : Nv} (hw : n.W) (h : w.rangeAt b 0 (nc n u)) : Nb w b n u := by
  have h0 := h
  unfold nc at h
  obtain ⟨h1, h⟩ := rng_head h
  obtain ⟨h2, h⟩ := rng_head h
  obtain ⟨h3, h⟩ := rng_head h
  obtain ⟨h4, h⟩ := rng_head h
  have h5 := rng_right h
  rw [rcs_len hw.next.1] at h5
  exact ⟨h1, h2, h3, h4, rng_left h, fun hr => rng_kid (fun r hr => (hw.kid r hr).1) h5 hr, h0⟩
theorem Nb.keep {w w' : World} {b : Nat} {n : Nd} {u : Nv} (h : Nb w b n u) (k : Below w.heap.size w w') : Nb w' b n u := by
  have hl : b < w.heap.size := World.block_lt_of_cell? _ _ h.k
  exact ⟨(k.cell hl).trans h.k, (k.cell hl).trans h.p, (k.cell hl).trans h.v, (k.cell hl).trans h.f, rng_keep h.x k, fun hr => rng_keep (h.kid hr) k, rng_keep h.all k⟩
theorem Nb.lt {w : World} {b : Nat} {n : Nd} {u : Nv} (h : Nb w b n u) : b < w.heap.size := World.block_lt_of_cell? _ _ h.k
theorem nb_new {n : Nd} (hw : n.W) (w : World) (u : Nv) : Nb (w.alloc (.cells (nc n u).toArray 110)) w.heap.size n u := nb_of hw (rng_new w _ _)
/-- A NODE's LISTS LIE IN MEMORY -/
structure Nin (w : World) (n : Nd) (u : Nv) : Prop where
  W : n.W
  p : Vb w u.p n.path
  v : Vb w u.v n.val
  x : Vb w u.x n.next.b
  k : ∀ {i : Nat} {r : Rf}, n.kids[i]? = some r → Vb w (u.k i) r.b
theorem Nin.keep {w w' : World} {n : Nd} {u : Nv} (h : Nin w n u) (k : Below w.heap.size w w') : Nin w' n u :=
  ⟨h.W, Rel.keep h.p k, Rel.keep h.v k, Rel.keep h.x k, fun hr => Rel.keep (h.k hr) k⟩
theorem vb_nil (w : World) : Vb w (.slice none 0 0) [] := ⟨none, 0, 0, 0, rfl, ⟨fun h => by simp at h, fun i hi => by simp at hi, fun i hi => by simp at hi, by simp⟩, by simp, fun _ => rfl, by simp⟩
theorem vb_one {w : World} {v : Value} {s : List Nat} (h : Vb w v s) : v.oneCell' = true := by
  obtain ⟨a, b, off, c, rfl, -⟩ := h
  rfl
theorem bv_one (s : List Nat) : ∀ v ∈ bv s, v.oneCell' = true := fun v hv => by
  obtain ⟨x, -, rfl⟩ := List.mem_map.1 hv
  rfl
theorem rcs_one {r : Rf} {v : Value} (h : v.oneCell' = true) : ∀ x ∈ rcs r v, x.oneCell' = true := fun x hx => by
  rcases List.mem_cons.1 hx with rfl | hx
  · rfl
  · rcases List.mem_append.1 hx with hx | hx
    · exact bv_one _ _ hx
    · rw [List.mem_singleton.1 hx]; exact h
theorem kcs_one {l : List Rf} : ∀ {k : Nat → Value}, (∀ i, i < l.length → (k i).oneCell' = true) → ∀ x ∈ kcs l k, x.oneCell' = true := by
  induction l with
  | nil => intro k _ x hx; cases hx
  | cons q l ih =>
    intro k h x hx
    rw [kcs] at hx
    rcases List.mem_append.1 hx with hx | hx
    · exact rcs_one (h 0 (by simp)) x hx
    · exact ih (fun i hi => h (i + 1) (by simpa using hi)) x hx
theorem Nin.one {w : World} {n : Nd} {u : Nv} (h : Nin w n u) : (nc n u).toArray.all (·.oneCell') = true := by
  refine all_oneCell_toArray (fun x hx => ?_)
  unfold nc at hx
  rcases List.mem_cons.1 hx with rfl | hx
  · rfl
  · rcases List.mem_cons.1 hx with rfl | hx
    · exact vb_one h.p
    · rcases List.mem_cons.1 hx with rfl | hx
      · exact vb_one h.v
      · rcases List.mem_cons.1 hx with rfl | hx
        · rfl
        · rcases List.mem_append.1 hx with hx | hx
          · exact rcs_one (vb_one h.x) x hx
          · exact kcs_one (fun i hi => vb_one (h.k (List.getElem?_eq_getElem hi))) x hx
/-- the zero node -/
def uz : Nv := ⟨.slice none 0 0, .slice none 0 0, .slice none 0 0, fun _ => .slice none 0 0⟩
theorem nz_w : nz.W := ⟨kz_len, rz_w, fun r hr => (kz_eq hr) ▸ rz_w, fun x hx => (by cases hx), fun x hx => (by cases hx)⟩
theorem nin_zero (w : World) : Nin w nz uz := ⟨nz_w, vb_nil w, vb_nil w, vb_nil w, fun hr => by
  rw [kz_eq (List.mem_of_getElem? hr)]
  exact vb_nil w⟩
theorem zero29 : (Tryz.prog.info? 110).map (fun i => (i.zero, i.size)) = some (some (.agg (nc nz uz).toArray), 582) := by kernel_rfl
theorem zv29 (w : World) : (zeroValue 110).run Tryz.prog w = .ok (.agg (nc nz uz).toArray) w := (zero_of_info zero29).1 w
theorem zero26 : (Tryz.prog.info? 107).map (fun i => (i.zero, i.size)) = some (some (.agg (rcs rz (.slice none 0 0)).toArray), 34) := by kernel_rfl
theorem zv26 (w : World) : (zeroValue 107).run Tryz.prog w = .ok (.agg (rcs rz (.slice none 0 0)).toArray) w := (zero_of_info zero26).1 w
theorem zero24 : (Tryz.prog.info? 31).map (fun i => (i.zero, i.size)) = some (some (.agg (bv z32).toArray), 32) := by kernel_rfl
theorem zv24 (w : World) : (zeroValue 31).run Tryz.prog w = .ok (.agg (bv z32).toArray) w := (zero_of_info zero24).1 w
/-- the hash of zeros, built -/
theorem build24 (w : World) : (Instr.build 31 #[]).run Tryz.prog w = .ok (.agg (bv z32).toArray) w := by
  exact run_build w 31 #[] _ (by kernel_rfl)
/-- cells laid over others -/
theorem fold_set (off : Nat) (xs : List Value) : ∀ (k : Nat) (cs : Array Value), off + k + xs.length ≤ cs.size →
    ((xs.zipIdx k).foldl (fun (cs : Array Value) (p : Value × Nat) => cs.setIfInBounds (off + p.2) p.1) cs).size = cs.size ∧
    ∀ i, ((xs.zipIdx k).foldl (fun (cs : Array Value) (p : Value × Nat) => cs.setIfInBounds (off + p.2) p.1) cs)[i]? = if off + k ≤ i ∧ i < off + k + xs.length then xs[i - (off + k)]? else cs[i]? := by
  induction xs with
  | nil => intro k cs _; exact ⟨rfl, fun i => by rw [if_neg (by simp)]; rfl⟩
  | cons x t ih =>
    intro k cs h
    simp only [List.length_cons] at h ⊢
    rw [List.zipIdx_cons, List.foldl_cons]
    obtain ⟨h1, h2⟩ := ih (k + 1) (cs.setIfInBounds (off + k) x) (by rw [Array.size_setIfInBounds]; omega)
    refine ⟨by rw [h1, Array.size_setIfInBounds], fun i => ?_⟩
    rw [h2 i]
    by_cases q : off + (k + 1) ≤ i ∧ i < off + (k + 1) + t.length
    · rw [if_pos q, if_pos (by omega), show i - (off + k) = (i - (off + (k + 1))) + 1 by omega, List.getElem?_cons_succ]
    · rw [if_neg q, Array.getElem?_setIfInBounds]
      by_cases q2 : off + k = i
      · rw [if_pos q2, if_pos (by omega), if_pos (by omega), q2, Nat.sub_self]
        rfl
      · rw [if_neg q2, if_neg (by omega)]
/-! ### laws for the walk -/
section
variable {ops : Array Oper} {rest : List Oper} {op : Oper} {a : Act} {w : World} {Q : Exit → Act → World → Prop}
/-- a node stored into a new variable -/
theorem wpList_st29 (hw : Region.wanted op (yielded ops a.tmps) = true) (x y : Operand) (ho : op.op = .store 110 x y) (n m : Nd) (u t : Nv) (hn : n.W) (hm : m.W) (h1 : (nc n u).toArray.all (·.oneCell') = true)
    (hx : a.eval x = .pointer (some ⟨w.heap.size, 0, none⟩)) (hy : a.eval y = .agg (nc n u).toArray) (h : wpList Tryz.prog ops Q rest (a.put op.dst undef) (w.alloc (.cells (nc n u).toArray 110))) :
    wpList Tryz.prog ops Q (op :: rest) a (w.alloc (.cells (nc m t).toArray 110)) := by
  refine wpList_g hw (wp_store_row 110 x y ho w.heap.size (nc n u).toArray hx hy 110 (nc m t).toArray (heap_alloc_new _ _) (by rw [List.size_toArray]; exact info_nc hn u) (by rw [List.size_toArray, List.size_toArray, nc_len hn, nc_len hm]) h1 ?_)
  rw [World.setRow_alloc_new]
  exact h
/-- a node stored into a variable -/
theorem wpList_st29b (hw : Region.wanted op (yielded ops a.tmps) = true) (x y : Operand) (ho : op.op = .store 110 x y) (b : Nat) (n m : Nd) (u t : Nv) (hn : n.W) (hm : m.W) (h1 : (nc n u).toArray.all (·.oneCell') = true) (hb : w.heap[b]? = some (.cells (nc m t).toArray 110 (0, 0)))
    (hx : a.eval x = .pointer (some ⟨b, 0, none⟩)) (hy : a.eval y = .agg (nc n u).toArray) (h : wpList Tryz.prog ops Q rest (a.put op.dst undef) (w.setRow b (nc n u).toArray)) :
    wpList Tryz.prog ops Q (op :: rest) a w :=
  wpList_g hw (wp_store_row 110 x y ho b (nc n u).toArray hx hy 110 (nc m t).toArray hb (by rw [List.size_toArray]; exact info_nc hn u) (by rw [List.size_toArray, List.size_toArray, nc_len hn, nc_len hm]) h1 h)
theorem wpList_st26 (hw : Region.wanted op (yielded ops a.tmps) = true) (x y : Operand) (ho : op.op = .store 107 x y) (r q : Rf) (v t : Value) (hr : r.h.length = 32) (hq : q.h.length = 32) (h1 : v.oneCell' = true)
    (hx : a.eval x = .pointer (some ⟨w.heap.size, 0, none⟩)) (hy : a.eval y = .agg (rcs r v).toArray) (h : wpList Tryz.prog ops Q rest (a.put op.dst undef) (w.alloc (.cells (rcs r v).toArray 107))) :
    wpList Tryz.prog ops Q (op :: rest) a (w.alloc (.cells (rcs q t).toArray 107)) := by
  refine wpList_g hw (wp_store_row 107 x y ho w.heap.size (rcs r v).toArray hx hy 107 (rcs q t).toArray (heap_alloc_new _ _) (by rw [List.size_toArray]; exact info_rcs hr v) (by rw [List.size_toArray, List.size_toArray, rcs_len hr, rcs_len hq]) (all_oneCell_toArray (rcs_one h1)) ?_)
  rw [World.setRow_alloc_new]
  exact h
theorem wpList_st26b (hw : Region.wanted op (yielded ops a.tmps) = true) (x y : Operand) (ho : op.op = .store 107 x y) (b : Nat) (r q : Rf) (v t : Value) (hr : r.h.length = 32) (hq : q.h.length = 32) (h1 : v.oneCell' = true) (hb : w.heap[b]? = some (.cells (rcs q t).toArray 107 (0, 0)))
    (hx : a.eval x = .pointer (some ⟨b, 0, none⟩)) (hy : a.eval y = .agg (rcs r v).toArray) (h : wpList Tryz.prog ops Q rest (a.put op.dst undef) (w.setRow b (rcs r v).toArray)) :
    wpList Tryz.prog ops Q (op :: rest) a w :=
  wpList_g hw (wp_store_row 107 x y ho b (rcs r v).toArray hx hy 107 (rcs q t).toArray hb (by rw [List.size_toArray]; exact info_rcs hr v) (by rw [List.size_toArray, List.size_toArray, rcs_len hr, rcs_len hq]) (all_oneCell_toArray (rcs_one h1)) h)
theorem wpList_ld29 (hw : Region.wanted op (yielded ops a.tmps) = true) (x : Operand) (ho : op.op = .load 110 x) (b : Nat) (n : Nd) (u : Nv) (hn : n.W) (hb : Nb w b n u) (hx : a.eval x = .pointer (some ⟨b, 0, none⟩))
    (h : wpList Tryz.prog ops Q rest (a.put op.dst (.agg (nc n u).toArray)) w) : wpList Tryz.prog ops Q (op :: rest) a w :=
  wpList_load_mid_g hw 110 x ho b 0 hx _ _ hb.all Tryz.underlying110 rfl (info_nc hn u) h
theorem wpList_ld26 (hw : Region.wanted op (yielded ops a.tmps) = true) (x : Operand) (ho : op.op = .load 107 x) (b o : Nat) (r : Rf) (v : Value) (hr : r.h.length = 32) (hb : w.rangeAt b o (rcs r v)) (hx : a.eval x = .pointer (some ⟨b, o, none⟩))
    (h : wpList Tryz.prog ops Q rest (a.put op.dst (.agg (rcs r v).toArray)) w) : wpList Tryz.prog ops Q (op :: rest) a w :=
  wpList_load_mid_g hw 107 x ho b o hx _ _ hb Tryz.underlying107 rfl (info_rcs hr v) h
theorem wpList_ld24 (hw : Region.wanted op (yielded ops a.tmps) = true) (x : Operand) (ho : op.op = .load 31 x) (b o : Nat) (s : List Nat) (hs : s.length = 32) (hb : w.rangeAt b o (bv s)) (hx : a.eval x = .pointer (some ⟨b, o, none⟩))
    (h : wpList Tryz.prog ops Q rest (a.put op.dst (.agg (bv s).toArray)) w) : wpList Tryz.prog ops Q (op :: rest) a w :=
  wpList_load_mid_g hw 31 x ho b o hx _ _ hb Tryz.underlying31 rfl (info_bv hs) h
theorem wpList_bd (hw : Region.wanted op (yielded ops a.tmps) = true) (t : TypeId) (parts : Array (Nat × Operand)) (ho : op.op = .build t parts) (cells : Array Value)
    (hb : Tryz.prog.built t (parts.map fun (i, x) => (i, a.eval x)).toList = some cells) (h : wpList Tryz.prog ops Q rest (a.put op.dst (.agg cells)) w) : wpList Tryz.prog ops Q (op :: rest) a w := by
  refine wpList_g hw ?_
  unfold Oper.wp execOp
  simp only [ho, Sem.run_bind, run_build w t _ cells hb, Result.andThen_ok]
  exact h
theorem built24 : Tryz.prog.built 31 [] = some (bv z32).toArray := by kernel_rfl
theorem built29 : Tryz.prog.built 110 [] = some (nc nz uz).toArray := by kernel_rfl
theorem built26 : Tryz.prog.built 107 [] = some (rcs rz (.slice none 0 0)).toArray := by kernel_rfl
theorem wpList_bd24 (hw : Region.wanted op (yielded ops a.tmps) = true) (ho : op.op = .build 31 #[]) (h : wpList Tryz.prog ops Q rest (a.put op.dst (.agg (bv z32).toArray)) w) : wpList Tryz.prog ops Q (op :: rest) a w :=
  wpList_bd hw _ _ ho _ (by simp only [List.map_toArray, List.map_nil]; exact built24) h
theorem wpList_bd29 (hw : Region.wanted op (yielded ops a.tmps) = true) (ho : op.op = .build 110 #[]) (h : wpList Tryz.prog ops Q rest (a.put op.dst (.agg (nc nz uz).toArray)) w) : wpList Tryz.prog ops Q (op :: rest) a w :=
  wpList_bd hw _ _ ho _ (by simp only [List.map_toArray, List.map_nil]; exact built29) h
theorem wpList_bd26 (hw : Region.wanted op (yielded ops a.tmps) = true) (ho : op.op = .build 107 #[]) (h : wpList Tryz.prog ops Q rest (a.put op.dst (.agg (rcs rz (.slice none 0 0)).toArray)) w) : wpList Tryz.prog ops Q (op :: rest) a w :=
  wpList_bd hw _ _ ho _ (by simp only [List.map_toArray, List.map_nil]; exact built26) h
end
theorem rng_ref_new (w : World) (r : Rf) (v : Value) (t : TypeId) : (w.alloc (.cells (rcs r v).toArray t)).rangeAt w.heap.size 0 (rcs r v) := rng_new w _ _
end Go.Proofs.YtepeolbbplodfaaGreatDoor

/-
  isValue, isPath, wholeKind, isRef, isNone, isNext.
-/
namespace Go.Proofs.YtepeolbbplodfaaGreatDoor
open Go.RowKit

/-- the lists of a node, by number -/
def Nv.at (u : Nv) : Nat → Value
  | 0 => u.p
  | 1 => u.v
  | 2 => u.x
  | i + 3 => u.k i
/-- A NODE THAT A CALL HAS HANDED OUT: each list in a block of its own, from lo on. -/
structure Nout (lo : Nat) (w : World) (n : Nd) (u : Nv) : Prop where
  W : n.W
  p : w.ownsRow lo 5 1 u.p n.path.length (bv n.path)
  v : w.ownsRow lo 5 1 u.v n.val.length (bv n.val)
  x : w.ownsRow lo 5 1 u.x n.next.b.length (bv n.next.b)
  k : ∀ {i : Nat} {r : Rf}, n.kids[i]? = some r → w.ownsRow lo 5 1 (u.k i) r.b.length (bv r.b)
  lp : n.path.length ≤ 1048576
  lv : n.val.length ≤ 1048576
  lx : n.next.b.length ≤ 1048576
  lk : ∀ r ∈ n.kids, r.b.length ≤ 1048576
  apart : ∀ i j, i < 19 → j < 19 → i ≠ j → ∀ g, (u.at i).ownBlock = some g → (u.at j).ownBlock ≠ some g
theorem Nout.inn {lo : Nat} {w : World} {n : Nd} {u : Nv} (h : Nout lo w n u) : Nin w n u :=
  ⟨h.W, vb_of_own h.p rfl h.W.path (by have := h.lp; omega), vb_of_own h.v rfl h.W.val (by have := h.lv; omega), vb_of_own h.x rfl h.W.next.2.2 (by have := h.lx; omega), fun hr => vb_of_own (h.k hr) rfl (h.W.kid _ (List.mem_of_getElem? hr)).2.2 (by have := h.lk _ (List.mem_of_getElem? hr); omega)⟩
theorem Nout.keep {lo : Nat} {w w' : World} {n : Nd} {u : Nv} (h : Nout lo w n u) (k : Below w.heap.size w w') : Nout lo w' n u :=
  ⟨h.W, own_same h.p (fun g hg => k.block g (h.p.lt g hg).2), own_same h.v (fun g hg => k.block g (h.v.lt g hg).2), own_same h.x (fun g hg => k.block g (h.x.lt g hg).2), fun hr => own_same (h.k hr) (fun g hg => k.block g ((h.k hr).lt g hg).2), h.lp, h.lv, h.lx, h.lk, h.apart⟩
theorem uz_at (i : Nat) : (uz.at i).ownBlock = none := by
  match i with
  | 0 => rfl
  | 1 => rfl
  | 2 => rfl
  | _ + 3 => rfl
theorem nout_zero (lo : Nat) (w : World) : Nout lo w nz uz :=
  ⟨nz_w, ⟨rfl, Or.inl ⟨rfl, rfl⟩⟩, ⟨rfl, Or.inl ⟨rfl, rfl⟩⟩, ⟨rfl, Or.inl ⟨rfl, rfl⟩⟩, fun hr => by rw [kz_eq (List.mem_of_getElem? hr)]; exact ⟨rfl, Or.inl ⟨rfl, rfl⟩⟩, by decide, by decide, by decide, fun r hr => by rw [kz_eq hr]; decide, fun i j _ _ _ g hg => by rw [uz_at] at hg; cases hg⟩
/-- what Decode answers -/
def dN (s : List Nat) : Nd := (decN KD s).getD nz
def dE (s : List Nat) : Nat := if (decN KD s).isSome then 0 else 70
def DecPst (s : List Nat) (w : World) (e : Ending) (w' : World) : Prop :=
  ∃ u, e = .returned (.tuple #[.agg (nc (dN s) u).toArray, .int .i64 ((dE s : Nat) : Int)]) ∧ Nout w.heap.size w' (dN s) u ∧ Below w.heap.size w w'
/-- DECODE ANSWERS SO -/
def DecOK (s : List Nat) : Prop := ∀ (w : World) (v : Value), Vb w v s → Calls Tryz.prog 107 #[v] w (DecPst s w)

set_option maxRecDepth 100000 in
set_option maxHeartbeats 800000 in
theorem isValue_any {w : World} {v : Value} {s : List Nat} (h : Vb w v s) : Calls Tryz.prog 149 #[v] w fun e w' => e = .returned (.bool (isV s)) ∧ w' = w := by
  obtain ⟨a, b, off, c, rfl, hv, hc, -, hl⟩ := h
  have HV : Hid (isV s = (decide (0 < s.length) && decide (s.length ≤ 256))) := rfl
  clear hv
  obtain ⟨n, en⟩ : ∃ n, n = s.length := ⟨_, rfl⟩
  rw [← en] at hl ⊢
  have HN : Hid (n = s.length) := en
  clear en hc
  by_cases h0 : 0 < n
  · have i0 : (0 : Int) < n := by omega
    by_cases h1 : n ≤ 256
    · have i1 : (n : Int) ≤ 256 := by omega
      go_enter Tryz.func149, Tryz.ntmps149
      go_wp2_with fail
      go_ret
      rw [HV.out, ← HN.out, decide_eq_true h0, decide_eq_true h1]
      exact ⟨rfl, rfl⟩
    · have i1 : ¬ (n : Int) ≤ 256 := by omega
      go_enter Tryz.func149, Tryz.ntmps149
      go_wp2_with fail
      go_ret
      rw [HV.out, ← HN.out, decide_eq_true h0, decide_eq_false h1]
      exact ⟨rfl, rfl⟩
  · have i0 : ¬ (0 : Int) < n := by omega
    go_enter Tryz.func149, Tryz.ntmps149
    go_wp2_with fail
    go_ret
    rw [HV.out, ← HN.out, decide_eq_false h0]
    exact ⟨rfl, rfl⟩
theorem pack_vb {w : World} {v : Value} {s : List Nat} (leaf : Bool) (h : Vb w v s) :
    Calls Tryz.prog 150 #[v, .bool leaf] w fun e w' => ∃ u, e = .returned (.tuple #[u, .int .i64 ((pkE s : Nat) : Int)]) ∧ Ans w w' u (pkR leaf s) := by
  obtain ⟨a, b, off, c, rfl, hv, hc, _⟩ := h
  exact pack_any w a b off c s leaf hv hc
set_option maxRecDepth 100000 in
set_option maxHeartbeats 800000 in
theorem nisPath_any {w : World} {v : Value} {s : List Nat} (h : Vb w v s) : Calls Tryz.prog 139 #[v] w fun e w' => e = .returned (.bool (decide (IsP s))) ∧ Below w.heap.size w w' := by
  have K := pack_vb false h
  clear h
  by_cases hp : IsP s
  · rw [decide_eq_true hp]
    rw [show pkE s = 0 by unfold pkE; rw [if_pos hp]] at K
    clear hp
    go_enter Tryz.func139, Tryz.ntmps139
    go_wp2_with (go_at_call 150; refine K.mono ?_; rintro e w' ⟨u, rfl, ha⟩; have HB : Hid (Below w.heap.size w w') := ha.below; clear ha)
    go_ret
    exact ⟨rfl, HB.out⟩
  · rw [decide_eq_false hp]
    rw [show pkE s = 60 by unfold pkE; rw [if_neg hp]] at K
    clear hp
    go_enter Tryz.func139, Tryz.ntmps139
    go_wp2_with (go_at_call 150; refine K.mono ?_; rintro e w' ⟨u, rfl, ha⟩; have HB : Hid (Below w.heap.size w w') := ha.below; clear ha)
    go_ret
    exact ⟨rfl, HB.out⟩
theorem dN_k {s : List Nat} (hs : ∀ x ∈ s, x < 256) : KD s = if 32 ≤ s.length then 0 else (dN s).k := by
  rw [KD_eq hs]
  split
  · rfl
  · unfold dN
    cases decN KD s <;> rfl
set_option maxRecDepth 100000 in
set_option maxHeartbeats 800000 in
theorem wholeKind_any {w : World} {v : Value} {s : List Nat} (h : Vb w v s) (hD : s.length < 32 → DecOK s) : Calls Tryz.prog 156 #[v] w fun e w' => e = .returned (.int .i64 (KD s)) ∧ Below w.heap.size w w' := by
  have hz := zv29
  have hs : ∀ x ∈ s, x < 256 := by obtain ⟨a, b, off, c, rfl, hv, -⟩ := h; exact (vw_ok hv).2
  have e0 := dN_k hs
  have K := fun h1 => hD h1 w v h
  obtain ⟨a, b, off, c, rfl, hv, hc, -, hl⟩ := h
  clear hv hD
  by_cases h0 : 32 ≤ s.length
  · rw [if_pos h0] at e0
    have i0 : (32 : Int) ≤ s.length := by omega
    rw [e0]
    clear e0 K
    go_enter Tryz.func156, Tryz.ntmps156
    go_wp2_with fail
    go_ret
    exact ⟨rfl, Below.refl _ _⟩
  · rw [if_neg h0] at e0
    have i0 : ¬ (32 : Int) ≤ s.length := by omega
    have K := K (by omega)
    rw [e0]
    clear e0
    go_enter Tryz.func156, Tryz.ntmps156
    go_wp2_with (first
      | (go_at_call 107; refine K.mono ?_; rintro e w1 ⟨u, rfl, ho, hb⟩; have HO : Hid (Nout w.heap.size w1 (dN s) u ∧ Below w.heap.size w w1) := ⟨ho, hb⟩; have hw := ho.W; have h1 := ho.inn.one; clear ho hb)
      | (refine wpList_st29 (by kernel_rfl) _ _ (by rfl) _ _ _ _ hw nz_w h1 (by rfl) (by rfl) ?_; have hk := (nb_new hw w1 u).k))
    go_ret
    exact ⟨rfl, HO.out.2.alloc HO.out.2.size _⟩

/-- a ref handed in -/
structure Rin (w : World) (r : Rf) (v : Value) : Prop where
  W : r.W
  b : Vb w v r.b
  D : r.k = 2 → r.b.length < 32 → DecOK r.b
theorem Rin.keep {w w' : World} {r : Rf} {v : Value} (h : Rin w r v) (k : Below w.heap.size w w') : Rin w' r v := ⟨h.W, Rel.keep h.b k, h.D⟩
set_option maxRecDepth 100000 in
set_option maxHeartbeats 1600000 in
theorem isRef_any {w : World} {r : Rf} {v : Value} (h : Rin w r v) : Calls Tryz.prog 151 #[.agg (rcs r v).toArray] w fun e w' => e = .returned (.bool (isRf KD r)) ∧ Below w.heap.size w w' := by
  obtain ⟨hW, hb, hD⟩ := h
  have B1 : Below w.heap.size w (w.alloc (.cells (rcs r v).toArray 107)) := below_alloc _ _
  have hvn : Vb (w.alloc (.cells (rcs r v).toArray 107)) v r.b := Rel.keep hb B1
  have K := fun h2 => wholeKind_any hvn (hD h2)
  obtain ⟨c0, c1, c2⟩ := rng_ref hW.1 (rng_ref_new w r v 107)
  rw [Nat.zero_add] at c1 c2
  have heq := fun w0 => eq_hash w0 r.h z32 hW.1 hW.2.1 z32_len z32_lt
  obtain ⟨a, b, off, c, rfl, hv, hc, -, hl⟩ := hb
  clear hv hvn
  have HI : Hid (isRf KD r = if r.k = 0 then decide (r.h = z32) && decide (r.b.length = 0) else if r.k = 1 then decide (r.b.length = 0) else if r.k = 2 then decide (r.h = z32) && decide (KD r.b ≠ 0) else false) := rfl
  obtain ⟨n, en⟩ : ∃ n, n = r.b.length := ⟨_, rfl⟩
  rw [← en] at hl hc c2 K B1 ⊢ c0 c1
  have HN : Hid (n = r.b.length) := en
  have HB : Hid (Below w.heap.size w (w.alloc (.cells (rcs r (.slice a n c)).toArray 107))) := B1
  have hh := hW.1
  clear en B1 hW
  by_cases k0 : r.k = 0
  · rw [k0] at c0
    have HK : Hid (r.k = 0) := k0
    clear k0 K
    by_cases hz : r.h = z32
    · rw [decide_eq_true hz] at heq
      have HZ : Hid (r.h = z32) := hz
      clear hz
      by_cases h0 : n = 0
      · subst h0
        go_enter Tryz.func151, Tryz.ntmps151
        go_wp2_with (first | refine wpList_ld24 (by kernel_rfl) _ (by rfl) _ _ _ hh c1 (by rfl) ?_ | refine wpList_bd24 (by kernel_rfl) (by rfl) ?_)
        go_ret
        rw [HI.out, if_pos HK.out, decide_eq_true HZ.out, ← HN.out]
        exact ⟨rfl, HB.out⟩
      · have i0 : ¬ (n : Int) = 0 := by omega
        have i0b : ((n : Int) == 0) = false := by simpa using i0
        go_enter Tryz.func151, Tryz.ntmps151
        go_wp2_with (first | refine wpList_ld24 (by kernel_rfl) _ (by rfl) _ _ _ hh c1 (by rfl) ?_ | refine wpList_bd24 (by kernel_rfl) (by rfl) ?_)
        go_ret
        rw [HI.out, if_pos HK.out, decide_eq_true HZ.out, ← HN.out, decide_eq_false h0]
        exact ⟨rfl, HB.out⟩
    · rw [decide_eq_false hz] at heq
      go_enter Tryz.func151, Tryz.ntmps151
      go_wp2_with (first | refine wpList_ld24 (by kernel_rfl) _ (by rfl) _ _ _ hh c1 (by rfl) ?_ | refine wpList_bd24 (by kernel_rfl) (by rfl) ?_)
      go_ret
      rw [HI.out, if_pos HK.out, decide_eq_false hz]
      exact ⟨rfl, HB.out⟩
  · have j0 : (r.k == 0) = false := by simpa using k0
    by_cases k1 : r.k = 1
    · rw [k1] at c0
      have HK : Hid (r.k = 1 ∧ ¬ r.k = 0) := ⟨k1, k0⟩
      clear k0 k1 j0 K
      by_cases h0 : n = 0
      · subst h0
        go_enter Tryz.func151, Tryz.ntmps151
        go_wp2_with fail
        go_ret
        rw [HI.out, if_neg HK.out.2, if_pos HK.out.1, ← HN.out]
        exact ⟨rfl, HB.out⟩
      · have i0 : ¬ (n : Int) = 0 := by omega
        have i0b : ((n : Int) == 0) = false := by simpa using i0
        go_enter Tryz.func151, Tryz.ntmps151
        go_wp2_with fail
        go_ret
        rw [HI.out, if_neg HK.out.2, if_pos HK.out.1, ← HN.out, decide_eq_false h0]
        exact ⟨rfl, HB.out⟩
    · have j1 : (r.k == 1) = false := by simpa using k1
      by_cases k2 : r.k = 2
      · have K := K k2
        rw [k2] at c0
        have HK : Hid (r.k = 2 ∧ ¬ r.k = 1 ∧ ¬ r.k = 0) := ⟨k2, k1, k0⟩
        clear k0 k1 k2 j0 j1
        by_cases hz : r.h = z32
        · rw [decide_eq_true hz] at heq
          have HZ : Hid (r.h = z32) := hz
          clear hz
          obtain ⟨kd, ekd⟩ : ∃ k, k = KD r.b := ⟨_, rfl⟩
          rw [← ekd] at K
          have HE : Hid (kd = KD r.b) := ekd
          clear ekd
          by_cases hk : kd = 0
          · subst hk
            go_enter Tryz.func151, Tryz.ntmps151
            go_wp2_with (first | refine wpList_ld24 (by kernel_rfl) _ (by rfl) _ _ _ hh c1 (by rfl) ?_ | refine wpList_bd24 (by kernel_rfl) (by rfl) ?_ | (go_at_call 156; refine K.mono ?_; rintro e w1 ⟨rfl, hb1⟩; have HB1 : Hid (Below w.heap.size w w1) := ch HB.out hb1; clear hb1))
            go_ret
            rw [HI.out, if_neg HK.out.2.2, if_neg HK.out.2.1, if_pos HK.out.1, decide_eq_true HZ.out, ← HE.out]
            exact ⟨rfl, HB1.out⟩
          · have i0b : (kd == 0) = false := by simpa using hk
            have i0c : (kd != 0) = true := by simpa using hk
            go_enter Tryz.func151, Tryz.ntmps151
            go_wp2_with (first | refine wpList_ld24 (by kernel_rfl) _ (by rfl) _ _ _ hh c1 (by rfl) ?_ | refine wpList_bd24 (by kernel_rfl) (by rfl) ?_ | (go_at_call 156; refine K.mono ?_; rintro e w1 ⟨rfl, hb1⟩; have HB1 : Hid (Below w.heap.size w w1) := ch HB.out hb1; clear hb1))
            go_ret
            rw [HI.out, if_neg HK.out.2.2, if_neg HK.out.2.1, if_pos HK.out.1, decide_eq_true HZ.out, ← HE.out, decide_eq_true hk]
            exact ⟨rfl, HB1.out⟩
        · rw [decide_eq_false hz] at heq
          clear K
          go_enter Tryz.func151, Tryz.ntmps151
          go_wp2_with (first | refine wpList_ld24 (by kernel_rfl) _ (by rfl) _ _ _ hh c1 (by rfl) ?_ | refine wpList_bd24 (by kernel_rfl) (by rfl) ?_)
          go_ret
          rw [HI.out, if_neg HK.out.2.2, if_neg HK.out.2.1, if_pos HK.out.1, decide_eq_false hz]
          exact ⟨rfl, HB.out⟩
      · have j2 : (r.k == 2) = false := by simpa using k2
        clear K
        go_enter Tryz.func151, Tryz.ntmps151
        go_wp2_with fail
        go_ret
        rw [HI.out, if_neg k0, if_neg k1, if_neg k2]
        exact ⟨rfl, HB.out⟩
set_option maxRecDepth 100000 in
set_option maxHeartbeats 1600000 in
theorem isNone_any {w : World} {r : Rf} {v : Value} (hW : r.W) (hb : Vb w v r.b) : Calls Tryz.prog 141 #[.agg (rcs r v).toArray] w fun e w' => e = .returned (.bool (isNo r)) ∧ Below w.heap.size w w' := by
  have B1 : Below w.heap.size w (w.alloc (.cells (rcs r v).toArray 107)) := below_alloc _ _
  have rg := rng_ref_new w r v 107
  obtain ⟨c0, -, -⟩ := rng_ref hW.1 rg
  have hh := hW.1
  by_cases k0 : r.k = 0
  · have K := isRef_any ⟨hW, Rel.keep hb B1, fun h2 => by omega⟩
    have e : isNo r = isRf KD r := by unfold isNo isRf; rw [if_pos k0, decide_eq_true k0]; rfl
    rw [e]
    have HB : Hid (Below w.heap.size w (w.alloc (.cells (rcs r v).toArray 107))) := B1
    rw [k0] at c0
    obtain ⟨q, eq⟩ : ∃ q, q = isRf KD r := ⟨_, rfl⟩
    rw [← eq] at K ⊢
    clear k0 e eq B1 hW hb
    go_enter Tryz.func141, Tryz.ntmps141
    go_wp2_with (first | refine wpList_ld26 (by kernel_rfl) _ (by rfl) _ _ _ _ hh rg (by rfl) ?_ | (go_at_call 151; refine K.mono ?_; rintro e w1 ⟨rfl, hb1⟩; have HB1 : Hid (Below w.heap.size w w1) := ch HB.out hb1; clear hb1))
    go_ret
    exact ⟨rfl, HB1.out⟩
  · have e : isNo r = false := by unfold isNo; rw [decide_eq_false k0]; rfl
    rw [e]
    have j0 : (r.k == 0) = false := by simpa using k0
    clear e
    go_enter Tryz.func141, Tryz.ntmps141
    go_wp2_with fail
    go_ret
    exact ⟨rfl, B1⟩
set_option maxRecDepth 100000 in
set_option maxHeartbeats 1600000 in
theorem isNext_any {w : World} {r : Rf} {v : Value} (h : Rin w r v) : Calls Tryz.prog 148 #[.agg (rcs r v).toArray] w fun e w' => e = .returned (.bool (isNx KD r)) ∧ Below w.heap.size w w' := by
  have B1 : Below w.heap.size w (w.alloc (.cells (rcs r v).toArray 107)) := below_alloc _ _
  have rg := rng_ref_new w r v 107
  have hh := h.W.1
  obtain ⟨c0, c1, c2⟩ := rng_ref hh rg
  rw [Nat.zero_add] at c1 c2
  have KR := isRef_any (h.keep B1)
  have KW := fun h2 => wholeKind_any (h.keep B1).b (h.D h2)
  have heq := fun w0 => eq_hash w0 r.h z32 hh h.W.2.1 z32_len z32_lt
  have HB : Hid (Below w.heap.size w (w.alloc (.cells (rcs r v).toArray 107))) := B1
  have HI : Hid (isNx KD r = if r.k = 2 then decide (r.h = z32) && decide (KD r.b = 3) else decide (r.k = 1) && decide (r.b.length = 0)) := rfl
  clear B1 h
  by_cases k2 : r.k = 2
  · have KW := KW k2
    rw [k2] at c0
    have HK : Hid (r.k = 2) := k2
    clear k2 KR
    by_cases hz : r.h = z32
    · rw [decide_eq_true hz] at heq
      have HZ : Hid (r.h = z32) := hz
      clear hz
      obtain ⟨kd, ekd⟩ : ∃ k, k = KD r.b := ⟨_, rfl⟩
      rw [← ekd] at KW
      have HE : Hid (kd = KD r.b) := ekd
      clear ekd
      by_cases hk : kd = 3
      · subst hk
        go_enter Tryz.func148, Tryz.ntmps148
        go_wp2_with (first | refine wpList_ld24 (by kernel_rfl) _ (by rfl) _ _ _ hh c1 (by rfl) ?_ | refine wpList_bd24 (by kernel_rfl) (by rfl) ?_ | (go_at_call 156; refine KW.mono ?_; rintro e w1 ⟨rfl, hb1⟩; have HB1 : Hid (Below w.heap.size w w1) := ch HB.out hb1; clear hb1))
        go_ret
        rw [HI.out, if_pos HK.out, decide_eq_true HZ.out, ← HE.out]
        exact ⟨rfl, HB1.out⟩
      · have i0b : (kd == 3) = false := by simpa using hk
        go_enter Tryz.func148, Tryz.ntmps148
        go_wp2_with (first | refine wpList_ld24 (by kernel_rfl) _ (by rfl) _ _ _ hh c1 (by rfl) ?_ | refine wpList_bd24 (by kernel_rfl) (by rfl) ?_ | (go_at_call 156; refine KW.mono ?_; rintro e w1 ⟨rfl, hb1⟩; have HB1 : Hid (Below w.heap.size w w1) := ch HB.out hb1; clear hb1))
        go_ret
        rw [HI.out, if_pos HK.out, decide_eq_true HZ.out, ← HE.out, decide_eq_false hk]
        exact ⟨rfl, HB1.out⟩
    · rw [decide_eq_false hz] at heq
      clear KW
      go_enter Tryz.func148, Tryz.ntmps148
      go_wp2_with (first | refine wpList_ld24 (by kernel_rfl) _ (by rfl) _ _ _ hh c1 (by rfl) ?_ | refine wpList_bd24 (by kernel_rfl) (by rfl) ?_)
      go_ret
      rw [HI.out, if_pos HK.out, decide_eq_false hz]
      exact ⟨rfl, HB.out⟩
  · have j2 : (r.k == 2) = false := by simpa using k2
    clear KW heq
    by_cases k1 : r.k = 1
    · have e : isNx KD r = isRf KD r := by unfold isRf; rw [HI.out, if_neg k2, if_neg (by omega), if_pos k1, decide_eq_true k1]; rfl
      rw [e]
      obtain ⟨q, eq⟩ : ∃ q, q = isRf KD r := ⟨_, rfl⟩
      rw [← eq] at KR ⊢
      rw [k1] at c0
      clear e eq k1 k2 j2
      go_enter Tryz.func148, Tryz.ntmps148
      go_wp2_with (first | refine wpList_ld26 (by kernel_rfl) _ (by rfl) _ _ _ _ hh rg (by rfl) ?_ | (go_at_call 151; refine KR.mono ?_; rintro e w1 ⟨rfl, hb1⟩; have HB1 : Hid (Below w.heap.size w w1) := ch HB.out hb1; clear hb1))
      go_ret
      exact ⟨rfl, HB1.out⟩
    · have j1 : (r.k == 1) = false := by simpa using k1
      clear KR
      go_enter Tryz.func148, Tryz.ntmps148
      go_wp2_with fail
      go_ret
      rw [HI.out, if_neg k2, decide_eq_false k1]
      exact ⟨rfl, HB.out⟩
end Go.Proofs.YtepeolbbplodfaaGreatDoor

/-
  hasNoKids, isFilled, endsInValue, leadsOn, mayBe.
-/
namespace Go.Proofs.YtepeolbbplodfaaGreatDoor
open Go.RowKit

/-- whatever stands whole in a node is read as it should be -/
def Nck (n : Nd) : Prop := (n.next.k = 2 → n.next.b.length < 32 → DecOK n.next.b) ∧ ∀ r ∈ n.kids, r.k = 2 → r.b.length < 32 → DecOK r.b
theorem Nin.kid {w : World} {n : Nd} {u : Nv} (h : Nin w n u) {i : Nat} (hi : i < 16) : ∃ r, n.kids[i]? = some r ∧ r ∈ n.kids ∧ r.W ∧ Vb w (u.k i) r.b := by
  have hl : i < n.kids.length := by rw [h.W.kids]; exact hi
  exact ⟨_, List.getElem?_eq_getElem hl, List.getElem_mem hl, h.W.kid _ (List.getElem_mem hl), h.k (List.getElem?_eq_getElem hl)⟩

set_option maxRecDepth 100000 in
set_option maxHeartbeats 1600000 in
theorem hasNoKids_any {w : World} {n : Nd} {u : Nv} (h : Nin w n u) : Calls Tryz.prog 140 #[.agg (nc n u).toArray] w fun e w' => e = .returned (.bool (noKids n)) ∧ Below w.heap.size w w' := by
  have B1 : Below w.heap.size w (w.alloc (.cells (nc n u).toArray 110)) := below_alloc _ _
  have H0 : Hid (Nin w n u ∧ Nb (w.alloc (.cells (nc n u).toArray 110)) w.heap.size n u ∧ noKids n = n.kids.all isNo) := ⟨h, nb_new h.W w u, rfl⟩
  clear h
  go_enter Tryz.func140, Tryz.ntmps140
  go_wp2_with fail
  go_loopg [4] 16 (fun gg k wr => ∃ (i : Nat), i ≤ 16 ∧ gg = 16 - i ∧ k = .int .i64 i ∧ Below (w.alloc (.cells (nc n u).toArray 110)).heap.size (w.alloc (.cells (nc n u).toArray 110)) wr ∧ ∀ j r, j < i → n.kids[j]? = some r → isNo r = true)
  case atStart => exact ⟨0, by omega, rfl, rfl, Below.refl _ _, fun j x hj => by omega⟩
  case round =>
    obtain ⟨i, hi, rfl, rfl, hb, hd⟩ := hrel
    by_cases hin : i < 16
    · have i1 : (i : Int) < 16 := by omega
      obtain ⟨r, hr, hm, hrW, hrb⟩ := H0.out.1.kid hin
      have rg := (H0.out.2.1.keep hb).kid hr
      have hh := hrW.1
      have bw : Below w.heap.size w wr := ch B1 hb
      have K := isNone_any (w := wr) (v := u.k i) hrW (Rel.keep hrb bw)
      have HX : Hid (n.kids[i]? = some r ∧ (∀ j r, j < i → n.kids[j]? = some r → isNo r = true) ∧ Below (w.alloc (.cells (nc n u).toArray 110)).heap.size (w.alloc (.cells (nc n u).toArray 110)) wr) := ⟨hr, hd, hb⟩
      obtain ⟨q, eq⟩ : ∃ q, q = isNo r := ⟨_, rfl⟩
      rw [← eq] at K
      have HQ : Hid (q = isNo r) := eq
      clear hr hm hrW hrb hd eq hb bw
      cases q with
      | true =>
        go_wp2_with (first | refine wpList_ld26 (by kernel_rfl) _ (by rfl) _ _ _ _ hh rg (by rfl) ?_ | (go_at_call 141; refine K.mono ?_; rintro e w1 ⟨rfl, hb1⟩; have HB1 : Hid (Below (w.alloc (.cells (nc n u).toArray 110)).heap.size (w.alloc (.cells (nc n u).toArray 110)) w1) := ch HX.out.2.2 hb1; clear hb1))
        go_roundg (16 - (i + 1))
        case measure => omega
        case rel =>
          refine ⟨i + 1, hin, rfl, by go_num, HB1.out, fun j y hj hy => ?_⟩
          by_cases e : j = i
          · subst e
            have := hy.symm.trans HX.out.1
            cases this
            exact HQ.out.symm
          · exact HX.out.2.1 j y (by omega) hy
      | false =>
        go_wp2_with (first | refine wpList_ld26 (by kernel_rfl) _ (by rfl) _ _ _ _ hh rg (by rfl) ?_ | (go_at_call 141; refine K.mono ?_; rintro e w1 ⟨rfl, hb1⟩; have HB1 : Hid (Below (w.alloc (.cells (nc n u).toArray 110)).heap.size (w.alloc (.cells (nc n u).toArray 110)) w1) := ch HX.out.2.2 hb1; clear hb1))
        go_ret
        have : noKids n = false := by
          rw [H0.out.2.2, ← Bool.not_eq_true, List.all_eq_true]
          intro q
          have := q r (List.mem_of_getElem? HX.out.1)
          rw [← HQ.out] at this
          cases this
        rw [this]
        exact ⟨rfl, ch B1 HB1.out⟩
    · have i1 : ¬ (i : Int) < 16 := by omega
      have HE : Hid (noKids n = true) := by
        show noKids n = true
        rw [H0.out.2.2, List.all_eq_true]
        intro r hr
        obtain ⟨j, hj, rfl⟩ := List.getElem_of_mem hr
        exact hd j _ (by have := H0.out.1.W.kids; omega) (List.getElem?_eq_getElem hj)
      have HB : Hid (Below w.heap.size w wr) := ch B1 hb
      clear hd hb
      go_wp2_with fail
      go_ret
      rw [HE.out]
      exact ⟨rfl, HB.out⟩
theorem things_step {l : List Rf} {i : Nat} {r : Rf} (h : l[i]? = some r) : things (l.take (i + 1)) = things (l.take i) + (if r.k = 0 then 0 else 1) := by
  unfold things
  rw [List.take_add_one, h, List.filter_append, List.length_append]
  congr 1
  simp only [Option.toList_some, List.filter_cons, List.filter_nil]
  by_cases q : r.k = 0
  · simp [q]
  · simp [q]
theorem things_le (l : List Rf) : things l ≤ l.length := List.length_filter_le _ _
set_option maxRecDepth 100000 in
set_option maxHeartbeats 1600000 in
theorem isFilled_any {w : World} {n : Nd} {u : Nv} (h : Nin w n u) (hD : Nck n) : Calls Tryz.prog 142 #[.agg (nc n u).toArray] w fun e w' => e = .returned (.bool (isFd KD n)) ∧ Below w.heap.size w w' := by
  have B1 : Below w.heap.size w (w.alloc (.cells (nc n u).toArray 110)) := below_alloc _ _
  have HI : Hid (isFd KD n = (n.kids.all (isRf KD) && (if n.full then decide (1 ≤ things n.kids) && isV n.val else decide (2 ≤ things n.kids) && decide (n.val.length = 0)))) := rfl
  have H0 : Hid (Nin w n u ∧ Nb (w.alloc (.cells (nc n u).toArray 110)) w.heap.size n u ∧ Nck n) := ⟨h, nb_new h.W w u, hD⟩
  clear h hD
  go_enter Tryz.func142, Tryz.ntmps142
  go_wp2_with fail
  go_loopg [3, 5] 16 (fun gg t k wr => ∃ (i : Nat), i ≤ 16 ∧ gg = 16 - i ∧ t = .int .i64 (things (n.kids.take i) : Nat) ∧ k = .int .i64 i ∧ Below (w.alloc (.cells (nc n u).toArray 110)).heap.size (w.alloc (.cells (nc n u).toArray 110)) wr ∧ ∀ j r, j < i → n.kids[j]? = some r → isRf KD r = true)
  case atStart => exact ⟨0, by omega, rfl, rfl, rfl, Below.refl _ _, fun j x hj => by omega⟩
  case round =>
    obtain ⟨i, hi, rfl, rfl, rfl, hb, hd⟩ := hrel
    obtain ⟨t, et⟩ : ∃ t, t = things (n.kids.take i) := ⟨_, rfl⟩
    have ht : t ≤ 16 := by
      rw [et]
      have h1 := things_le (n.kids.take i)
      have h2 := H0.out.1.W.kids
      rw [List.length_take] at h1
      omega
    rw [← et]
    have HT : Hid (t = things (n.kids.take i)) := et
    clear et
    by_cases hin : i < 16
    · have i1 : (i : Int) < 16 := by omega
      obtain ⟨r, hr, hm, hrW, hrb⟩ := H0.out.1.kid hin
      have rg := (H0.out.2.1.keep hb).kid hr
      have hh := hrW.1
      have bw : Below w.heap.size w wr := ch B1 hb
      have K := isRef_any (w := wr) (v := u.k i) ⟨hrW, Rel.keep hrb bw, H0.out.2.2.2 r hm⟩
      have HX : Hid (n.kids[i]? = some r ∧ (∀ j r, j < i → n.kids[j]? = some r → isRf KD r = true) ∧ Below (w.alloc (.cells (nc n u).toArray 110)).heap.size (w.alloc (.cells (nc n u).toArray 110)) wr) := ⟨hr, hd, hb⟩
      obtain ⟨q, eq⟩ : ∃ q, q = isRf KD r := ⟨_, rfl⟩
      rw [← eq] at K
      have HQ : Hid (q = isRf KD r) := eq
      have HR : Hid (∀ {i : Nat} {r : Rf} {w1 : World}, Below wr.heap.size wr w1 → n.kids[i]? = some r → w1.cell? ⟨w.heap.size, 38 + i * 34, none⟩ = some (.int .i64 r.k)) := fun {i r w1} b1 hr => (rng_ref (H0.out.1.W.kid r (List.mem_of_getElem? hr)).1 (((H0.out.2.1.keep hb).keep b1).kid hr)).1
      clear hr hm hrW hrb hd eq hb bw
      cases q with
      | true =>
        by_cases k0 : r.k = 0
        · go_wp2_with (first | refine wpList_ld26 (by kernel_rfl) _ (by rfl) _ _ _ _ hh rg (by rfl) ?_ | (go_at_call 151; refine K.mono ?_; rintro e w1 ⟨rfl, hb1⟩; have HB1 : Hid (Below (w.alloc (.cells (nc n u).toArray 110)).heap.size (w.alloc (.cells (nc n u).toArray 110)) w1) := ch HX.out.2.2 hb1; have ck := HR.out hb1 HX.out.1; rw [k0] at ck; clear hb1))
          go_roundg (16 - (i + 1))
          case measure => omega
          case rel =>
            refine ⟨i + 1, hin, rfl, by rw [things_step HX.out.1, if_pos k0, HT.out]; rfl, by go_num, HB1.out, fun j y hj hy => ?_⟩
            by_cases e : j = i
            · subst e
              have := hy.symm.trans HX.out.1
              cases this
              exact HQ.out.symm
            · exact HX.out.2.1 j y (by omega) hy
        · have k0c : (r.k != 0) = true := by simpa using k0
          go_wp2_with (first | refine wpList_ld26 (by kernel_rfl) _ (by rfl) _ _ _ _ hh rg (by rfl) ?_ | (go_at_call 151; refine K.mono ?_; rintro e w1 ⟨rfl, hb1⟩; have HB1 : Hid (Below (w.alloc (.cells (nc n u).toArray 110)).heap.size (w.alloc (.cells (nc n u).toArray 110)) w1) := ch HX.out.2.2 hb1; have ck := HR.out hb1 HX.out.1; clear hb1))
          go_roundg (16 - (i + 1))
          case measure => omega
          case rel =>
            refine ⟨i + 1, hin, rfl, by rw [things_step HX.out.1, if_neg k0, ← HT.out]; go_num, by go_num, HB1.out, fun j y hj hy => ?_⟩
            by_cases e : j = i
            · subst e
              have := hy.symm.trans HX.out.1
              cases this
              exact HQ.out.symm
            · exact HX.out.2.1 j y (by omega) hy
      | false =>
        go_wp2_with (first | refine wpList_ld26 (by kernel_rfl) _ (by rfl) _ _ _ _ hh rg (by rfl) ?_ | (go_at_call 151; refine K.mono ?_; rintro e w1 ⟨rfl, hb1⟩; have HB1 : Hid (Below (w.alloc (.cells (nc n u).toArray 110)).heap.size (w.alloc (.cells (nc n u).toArray 110)) w1) := ch HX.out.2.2 hb1; clear hb1))
        go_ret
        have : n.kids.all (isRf KD) = false := by
          rw [← Bool.not_eq_true, List.all_eq_true]
          intro q
          have := q r (List.mem_of_getElem? HX.out.1)
          rw [← HQ.out] at this
          cases this
        rw [HI.out, this]
        exact ⟨rfl, ch B1 HB1.out⟩
    · have i1 : ¬ (i : Int) < 16 := by omega
      obtain rfl : i = 16 := by omega
      have HE : Hid (n.kids.all (isRf KD) = true ∧ t = things n.kids) := by
        refine ⟨?_, ?_⟩
        · rw [List.all_eq_true]
          intro r hr
          obtain ⟨j, hj, rfl⟩ := List.getElem_of_mem hr
          exact hd j _ (by have := H0.out.1.W.kids; omega) (List.getElem?_eq_getElem hj)
        · rw [HT.out, List.take_of_length_le (by have := H0.out.1.W.kids; omega)]
      have HB : Hid (Below w.heap.size w wr) := ch B1 hb
      have cf := (H0.out.2.1.keep hb).f
      have cv := (H0.out.2.1.keep hb).v
      have hv := Rel.keep H0.out.1.v HB.out
      have K := isValue_any hv
      obtain ⟨a, b, off, c, e, -, -, -, hl⟩ := hv
      rw [e] at cv K
      obtain ⟨m, em⟩ : ∃ m, m = n.val.length := ⟨_, rfl⟩
      rw [← em] at hl cv K
      have HM : Hid (m = n.val.length) := em
      obtain ⟨q, eq⟩ : ∃ q, q = isV n.val := ⟨_, rfl⟩
      rw [← eq] at K
      have HQ : Hid (q = isV n.val) := eq
      obtain ⟨fl, ef⟩ : ∃ fl, fl = n.full := ⟨_, rfl⟩
      rw [← ef] at cf
      have HF : Hid (fl = n.full) := ef
      clear hd hb e em eq ef
      cases fl with
      | false =>
        by_cases t2 : 2 ≤ t
        · have j2 : (2 : Int) ≤ t := by omega
          by_cases m0 : m = 0
          · subst m0
            go_wp2_with fail
            go_ret
            rw [HI.out, HE.out.1, ← HE.out.2, ← HF.out, ← HM.out, decide_eq_true t2]
            exact ⟨rfl, HB.out⟩
          · have j0 : ((m : Int) == 0) = false := by simp; omega
            have j0b : ¬ (m : Int) = 0 := by omega
            go_wp2_with fail
            go_ret
            rw [HI.out, HE.out.1, ← HE.out.2, ← HF.out, ← HM.out, decide_eq_true t2, decide_eq_false m0]
            exact ⟨rfl, HB.out⟩
        · have j2 : ¬ (2 : Int) ≤ t := by omega
          go_wp2_with fail
          go_ret
          rw [HI.out, HE.out.1, ← HE.out.2, ← HF.out, decide_eq_false t2]
          exact ⟨rfl, HB.out⟩
      | true =>
        by_cases t2 : 1 ≤ t
        · have j2 : (1 : Int) ≤ t := by omega
          go_wp2_with (go_at_call 149; refine K.mono ?_; rintro e w1 ⟨rfl, rfl⟩)
          go_ret
          rw [HI.out, HE.out.1, ← HE.out.2, ← HF.out, ← HQ.out, decide_eq_true t2]
          exact ⟨rfl, HB.out⟩
        · have j2 : ¬ (1 : Int) ≤ t := by omega
          go_wp2_with fail
          go_ret
          rw [HI.out, HE.out.1, ← HE.out.2, ← HF.out, decide_eq_false t2]
          exact ⟨rfl, HB.out⟩

set_option maxRecDepth 100000 in
set_option maxHeartbeats 1600000 in
theorem ends_any {w : World} {n : Nd} {u : Nv} (h : Nin w n u) : Calls Tryz.prog 138 #[.agg (nc n u).toArray] w fun e w' => e = .returned (.bool (ends n)) ∧ Below w.heap.size w w' := by
  have B1 : Below w.heap.size w (w.alloc (.cells (nc n u).toArray 110)) := below_alloc _ _
  have nb := nb_new h.W w u
  have cv := nb.v
  have cx := nb.x
  have hh := h.W.next.1
  have KV := isValue_any (Rel.keep h.v B1)
  have KN := isNone_any h.W.next (Rel.keep h.x B1)
  have HI : Hid (ends n = (isV n.val && isNo n.next)) := rfl
  obtain ⟨q, eq⟩ : ∃ q, q = isV n.val := ⟨_, rfl⟩
  obtain ⟨q2, eq2⟩ : ∃ q, q = isNo n.next := ⟨_, rfl⟩
  rw [← eq] at KV
  rw [← eq2] at KN
  have HQ : Hid (q = isV n.val ∧ q2 = isNo n.next) := ⟨eq, eq2⟩
  clear nb h eq eq2
  cases q with
  | true =>
    go_enter Tryz.func138, Tryz.ntmps138
    go_wp2_with (first | (go_at_call 149; refine KV.mono ?_; rintro e w1 ⟨rfl, rfl⟩) | refine wpList_ld26 (by kernel_rfl) _ (by rfl) _ _ _ _ hh cx (by rfl) ?_ | (go_at_call 141; refine KN.mono ?_; rintro e w1 ⟨rfl, hb1⟩; have HB1 : Hid (Below w.heap.size w w1) := ch B1 hb1; clear hb1))
    go_ret
    rw [HI.out, ← HQ.out.1, ← HQ.out.2]
    exact ⟨rfl, HB1.out⟩
  | false =>
    go_enter Tryz.func138, Tryz.ntmps138
    go_wp2_with (go_at_call 149; refine KV.mono ?_; rintro e w1 ⟨rfl, rfl⟩)
    go_ret
    rw [HI.out, ← HQ.out.1]
    exact ⟨rfl, B1⟩

set_option maxRecDepth 100000 in
set_option maxHeartbeats 1600000 in
theorem leads_any {w : World} {n : Nd} {u : Nv} (h : Nin w n u) (hD : Nck n) : Calls Tryz.prog 137 #[.agg (nc n u).toArray] w fun e w' => e = .returned (.bool (leads KD n)) ∧ Below w.heap.size w w' := by
  have B1 : Below w.heap.size w (w.alloc (.cells (nc n u).toArray 110)) := below_alloc _ _
  have nb := nb_new h.W w u
  have cp := nb.p
  have cv := nb.v
  have cx := nb.x
  have hh := h.W.next.1
  have KN := isNext_any ⟨h.W.next, Rel.keep h.x B1, hD.1⟩
  have HI : Hid (leads KD n = (decide (0 < n.path.length) && (decide (n.val.length = 0) && isNx KD n.next))) := rfl
  obtain ⟨a, b, off, c, e, -, -, -, hl⟩ := h.p
  rw [e] at cp
  obtain ⟨a', b', off', c', e', -, -, -, hl'⟩ := h.v
  rw [e'] at cv
  obtain ⟨m, em⟩ : ∃ m, m = n.path.length := ⟨_, rfl⟩
  obtain ⟨l, el⟩ : ∃ m, m = n.val.length := ⟨_, rfl⟩
  obtain ⟨q2, eq2⟩ : ∃ q, q = isNx KD n.next := ⟨_, rfl⟩
  rw [← eq2] at KN
  rw [← em] at cp hl
  rw [← el] at cv hl'
  have HQ : Hid (m = n.path.length ∧ l = n.val.length ∧ q2 = isNx KD n.next) := ⟨em, el, eq2⟩
  clear nb h eq2 em el e e' hD
  by_cases m0 : 0 < m
  · have j0 : (0 : Int) < m := by omega
    by_cases l0 : l = 0
    · subst l0
      go_enter Tryz.func137, Tryz.ntmps137
      go_wp2_with (first | refine wpList_ld26 (by kernel_rfl) _ (by rfl) _ _ _ _ hh cx (by rfl) ?_ | (go_at_call 148; refine KN.mono ?_; rintro e w1 ⟨rfl, hb1⟩; have HB1 : Hid (Below w.heap.size w w1) := ch B1 hb1; clear hb1))
      go_ret
      rw [HI.out, ← HQ.out.1, ← HQ.out.2.1, ← HQ.out.2.2, decide_eq_true m0]
      exact ⟨rfl, HB1.out⟩
    · have j1 : ((l : Int) == 0) = false := by simp; omega
      have j1b : ¬ (l : Int) = 0 := by omega
      go_enter Tryz.func137, Tryz.ntmps137
      go_wp2_with fail
      go_ret
      rw [HI.out, ← HQ.out.1, ← HQ.out.2.1, decide_eq_true m0, decide_eq_false l0]
      exact ⟨rfl, B1⟩
  · have j0 : ¬ (0 : Int) < m := by omega
    go_enter Tryz.func137, Tryz.ntmps137
    go_wp2_with fail
    go_ret
    rw [HI.out, ← HQ.out.1, decide_eq_false m0]
    exact ⟨rfl, B1⟩
end Go.Proofs.YtepeolbbplodfaaGreatDoor
