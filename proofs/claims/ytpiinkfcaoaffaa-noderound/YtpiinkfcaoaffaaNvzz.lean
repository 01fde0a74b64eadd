import Derived.Test.YtpiinkfcaoaffaaNdzz
import Derived.Test.YtpiinkfcaoaffaaFmzz
import Derived.Deep.MidRow
import Derived.Deep.WholeRow
import Derived.Deep.Upon
import Derived.DeepKeys
/-
  A node in memory: its cells.
-/
namespace Go.Proofs.Ytpiinkfcaoaffaa
open Go.RowKit
/-! ### ranges -/
theorem rng_left {w : World} {b o : Nat} {xs ys : List Value} (h : w.rangeAt b o (xs ++ ys)) : w.rangeAt b o xs := fun j v hv => h j v (by rw [List.getElem?_append_left (List.getElem?_eq_some_iff.1 hv).1]; exact hv)
theorem rng_right {w : World} {b o : Nat} {xs ys : List Value} (h : w.rangeAt b o (xs ++ ys)) : w.rangeAt b (o + xs.length) ys := fun j v hv => by
  have := h (xs.length + j) v (by rw [List.getElem?_append_right (by omega), Nat.add_sub_cancel_left]; exact hv)
  rw [← Nat.add_assoc] at this
  exact this
theorem rng_app {w : World} {b o : Nat} {xs ys : List Value} (h1 : w.rangeAt b o xs) (h2 : w.rangeAt b (o + xs.length) ys) : w.rangeAt b o (xs ++ ys) := fun j v hv => by
  by_cases hj : j < xs.length
  · rw [List.getElem?_append_left hj] at hv
    exact h1 j v hv
  · rw [List.getElem?_append_right (by omega)] at hv
    have := h2 (j - xs.length) v hv
    rw [show o + xs.length + (j - xs.length) = o + j by omega] at this
    exact this
theorem rng_head {w : World} {b o : Nat} {x : Value} {xs : List Value} (h : w.rangeAt b o (x :: xs)) : w.cell? ⟨b, o, none⟩ = some x ∧ w.rangeAt b (o + 1) xs :=
  ⟨h 0 x rfl, fun j v hv => by
    have := h (j + 1) v (by simpa using hv)
    rw [show o + (j + 1) = o + 1 + j by omega] at this
    exact this⟩
theorem rng_new (w : World) (cs : List Value) (t : TypeId) : (w.alloc (.cells cs.toArray t)).rangeAt w.heap.size 0 cs := fun j v hv => by
  rw [cell_of_row _ _ _ _ _ _ (heap_alloc_new w _), Nat.zero_add]
  simpa using hv
theorem rng_lt {w : World} {b o : Nat} {cs : List Value} (h : w.rangeAt b o cs) (h0 : 0 < cs.length) : b < w.heap.size := World.block_lt_of_cell? _ _ (h 0 _ (List.getElem?_eq_getElem h0))
theorem rng_same {w w' : World} {b o : Nat} {cs : List Value} (h : w.rangeAt b o cs) (k : w'.heap[b]? = w.heap[b]?) : w'.rangeAt b o cs := fun j v hv => (World.cell?_of_block (w := w) k).trans (h j v hv)
theorem rng_keep {w w' : World} {b o : Nat} {cs : List Value} (h : w.rangeAt b o cs) (k : Below w.heap.size w w') : w'.rangeAt b o cs := fun j v hv => by
  have h1 := h j v hv
  rw [k.cell (World.block_lt_of_cell? _ _ h1)]
  exact h1
theorem rng_row {w : World} {b : Nat} {cs : List Value} {t : TypeId} {fr : Nat × Nat} (h : w.heap[b]? = some (.cells cs.toArray t fr)) : w.rangeAt b 0 cs := fun j v hv => by
  rw [cell_of_row _ _ _ _ _ _ h, Nat.zero_add]
  simpa using hv
/-! ### a whole struct loaded in a guarded place -/
section
variable {ops : Array Oper} {rest : List Oper} {op : Oper} {a : Act} {w : World} {Q : Exit → Act → World → Prop}
theorem wpList_g {P : Program} (hw : Region.wanted op (yielded ops a.tmps) = true) (h : op.wp P a w (wpList P ops Q rest) Q) : wpList P ops Q (op :: rest) a w := by
  unfold wpList
  rw [if_pos hw]
  exact Or.inl h
theorem wpList_load_mid_g {P : Program} (hw : Region.wanted op (yielded ops a.tmps) = true) (ty : TypeId) (x : Operand) (ho : op.op = .load ty x)
    (b o : Nat) (hx : a.eval x = .pointer (some ⟨b, o, none⟩)) (cs : List Value) (d : TypeDesc) (hc : w.rangeAt b o cs)
    (hu : P.underlying ty = some d) (hd : d.isRow = true) (hi : (P.info? ty).map (·.size) = some cs.length)
    (h : wpList P ops Q rest (a.put op.dst (.agg cs.toArray)) w) : wpList P ops Q (op :: rest) a w :=
  wpList_g hw (wp_load_mid ty x ho b o hx cs d hc hu hd hi h)
end
/-! ### a hash -/
theorem info24 : (Try.prog.info? 24).map (·.size) = some 32 := by kernel_rfl
theorem info26 : (Try.prog.info? 26).map (·.size) = some 34 := by kernel_rfl
theorem info29 : (Try.prog.info? 29).map (·.size) = some 582 := by kernel_rfl
theorem mapM_some {α β : Type} (f : α → Option β) (g : α → β) : ∀ l : List α, (∀ x ∈ l, f x = some (g x)) → l.mapM f = some (l.map g)
  | [], _ => rfl
  | x :: l, h => by
    rw [List.mapM_cons, h x (by simp), mapM_some f g l (fun y hy => h y (by simp [hy]))]
    rfl
theorem lits24 (s : List Nat) (hs : s.length = 32) (hf : ∀ x ∈ s, x < 256) :
    Try.prog.keyLits 2 24 (bv s) = some (((List.range 32).map (fun i => [Lit.int .u8 (gd s i : Nat)])).flatten) := by
  have c26 : Try.prog.cellsOf 24 = 32 := by kernel_rfl
  have c5 : Try.prog.cellsOf 5 = 1 := by kernel_rfl
  unfold Program.keyLits
  rw [Try.underlying24]
  simp only [bv_len, hs, c26, if_true]
  rw [mapM_some _ (fun i => [Lit.int .u8 (gd s i : Nat)]) (List.range 32) ?_]
  · rfl
  · intro i hi
    have hi' : i < 32 := by simpa using hi
    have e : ((bv s).drop (i * Try.prog.cellsOf 5)).take (Try.prog.cellsOf 5) = [.int .u8 (gd s i : Nat)] := by
      rw [c5, Nat.mul_one]
      have h2 := bv_at (s := s) (i := i) (by omega)
      rw [List.getElem?_eq_getElem (by rw [bv_len]; omega)] at h2
      rw [List.drop_eq_getElem_cons (by rw [bv_len]; omega)]
      simp only [List.take_succ_cons, List.take_zero]
      rw [Option.some.inj h2]
    rw [e]
    unfold Program.keyLits
    rw [Try.underlying5]
    have wf : (Lit.int .u8 (gd s i : Nat)).wf = true := by
      have := gd_lt hf i
      simp [Lit.wf, IntKind.min, IntKind.max, IntKind.bits, IntKind.signed]
      omega
    simp only [wf, and_self, if_true]
theorem flat1 {α : Type} (f : Nat → α) (l : List Nat) : (l.map (fun i => [f i])).flatten = l.map f := by
  induction l with
  | nil => rfl
  | cons a t ih => simp [ih]
theorem lit_iff (s t : List Nat) (hs : s.length = 32) (ht : t.length = 32) : ((List.range 32).map (fun i => [Lit.int .u8 (gd s i : Nat)])).flatten = ((List.range 32).map (fun i => [Lit.int .u8 (gd t i : Nat)])).flatten ↔ s = t := by
  rw [flat1 (fun i => Lit.int .u8 (gd s i : Nat)), flat1 (fun i => Lit.int .u8 (gd t i : Nat))]
  constructor
  · intro h
    refine ext_gd (by omega) (fun i hi => ?_)
    have h2 : ((List.range 32).map (fun i => Lit.int .u8 (gd s i : Nat)))[i]? = ((List.range 32).map (fun i => Lit.int .u8 (gd t i : Nat)))[i]? := by rw [h]
    rw [List.getElem?_map, List.getElem?_map, List.getElem?_range (by omega)] at h2
    have h3 := Option.some.inj h2
    injection h3 with _ h4
    exact Int.ofNat.inj h4
  · rintro rfl
    rfl
/-- TWO HASHES COMPARED -/
theorem eq_hash (w : World) (s t : List Nat) (hs : s.length = 32) (hf : ∀ x ∈ s, x < 256) (ht : t.length = 32) (hg : ∀ x ∈ t, x < 256) :
    (Op.equalIn 10000 24 (.agg (bv s).toArray) (.agg (bv t).toArray)).run Try.prog w = .ok (decide (s = t)) w := by
  have K : Try.prog.keyTypeAt 2 24 = true := by kernel_rfl
  have c26 : Try.prog.cellsOf 24 = 32 := by kernel_rfl
  have fm : ∀ r : List Nat, r.length = 32 → (Value.agg (bv r).toArray).formed Try.prog 24 = true := fun r hr => by
    unfold Value.formed
    rw [Try.underlying24, c26]
    show ((bv r).toArray.size == 32) = true
    simp [bv_len, hr]
  have kl := lits24 s hs hf
  have kl' := lits24 t ht hg
  obtain ⟨r, hr, hiff⟩ := run_equalIn_deep 9998 2 24 K w 2 2 (.agg (bv s).toArray) (.agg (bv t).toArray) _ _ (fm s hs) (fm t ht) (by simpa [Value.cells] using kl) (by simpa [Value.cells] using kl')
  have e : r = decide (s = t) := by
   rw [Bool.eq_iff_iff, hiff, decide_eq_true_eq]
   exact lit_iff s t hs ht
  rw [hr, e]
/-! ### the cells -/
def rcs (r : Rf) (v : Value) : List Value := .int .i64 r.k :: (bv r.h ++ [v])
theorem rcs_len {r : Rf} (h : r.h.length = 32) (v : Value) : (rcs r v).length = 34 := by simp [rcs, bv_len, h]
/-- a ref that lies there -/
theorem rng_ref {w : World} {b o : Nat} {r : Rf} {v : Value} (hh : r.h.length = 32) (h : w.rangeAt b o (rcs r v)) : w.cell? ⟨b, o, none⟩ = some (.int .i64 r.k) ∧ w.rangeAt b (o + 1) (bv r.h) ∧ w.cell? ⟨b, o + 33, none⟩ = some v := by
  obtain ⟨h1, h2⟩ := rng_head h
  refine ⟨h1, rng_left h2, ?_⟩
  have h3 := rng_right h2
  rw [bv_len, hh] at h3
  have := h3 0 v rfl
  rw [show o + 1 + 32 + 0 = o + 33 by omega] at this
  exact this
/-- THE VALUES OF A NODE's LISTS -/
structure Nv where
  p : Value
  v : Value
  x : Value
  k : Nat → Value
def kcs : List Rf → (Nat → Value) → List Value
  | [], _ => []
  | r :: l, k => rcs r (k 0) ++ kcs l (fun i => k (i + 1))
theorem kcs_len {l : List Rf} (h : ∀ r ∈ l, r.h.length = 32) : ∀ k : Nat → Value, (kcs l k).length = l.length * 34 := by
  induction l with
  | nil => intro k; rfl
  | cons r l ih =>
    intro k
    rw [kcs, List.length_append, rcs_len (h r (by simp)), ih (fun q hq => h q (by simp [hq])), List.length_cons]
    omega
theorem rng_kid {w : World} {b : Nat} {l : List Rf} (h : ∀ r ∈ l, r.h.length = 32) : ∀ {o : Nat} {k : Nat → Value}, w.rangeAt b o (kcs l k) → ∀ {i : Nat} {r : Rf}, l[i]? = some r → w.rangeAt b (o + i * 34) (rcs r (k i)) := by
  induction l with
  | nil => intro o k _ i r hr; simp at hr
  | cons q l ih =>
    intro o k hR i r hr
    rw [kcs] at hR
    cases i with
    | zero =>
      simp at hr
      subst hr
      simpa using rng_left hR
    | succ i =>
      have := rng_right hR
      rw [rcs_len (h q (by simp))] at this
      have := ih (fun q hq => h q (by simp [hq])) this (i := i) (r := r) (by simpa using hr)
      rw [show o + 34 + i * 34 = o + (i + 1) * 34 by omega] at this
      exact this
theorem kcs_congr {l : List Rf} : ∀ {k k' : Nat → Value}, (∀ i, i < l.length → k i = k' i) → kcs l k = kcs l k' := by
  induction l with
  | nil => intro k k' _; rfl
  | cons q l ih =>
    intro k k' h
    rw [kcs, kcs, h 0 (by simp), ih (fun i hi => h (i + 1) (by simpa using hi))]
/-- A NODE's CELLS -/
def nc (n : Nd) (u : Nv) : List Value := .int .i64 n.k :: u.p :: u.v :: .bool n.full :: (rcs n.next u.x ++ kcs n.kids u.k)
theorem nc_len {n : Nd} (h : n.W) (u : Nv) : (nc n u).length = 582 := by
  simp only [nc, List.length_cons, List.length_append]
  rw [rcs_len h.next.1, kcs_len (fun r hr => (h.kid r hr).1), h.kids]
theorem info_nc {n : Nd} (h : n.W) (u : Nv) : (Try.prog.info? 29).map (·.size) = some (nc n u).length := by rw [nc_len h]; exact info29
theorem info_rcs {r : Rf} (h : r.h.length = 32) (v : Value) : (Try.prog.info? 26).map (·.size) = some (rcs r v).length := by rw [rcs_len h]; exact info26
theorem info_bv {s : List Nat} (h : s.length = 32) : (Try.prog.info? 24).map (·.size) = some (bv s).length := by rw [bv_len, h]; exact info24
/-- A NODE THAT LIES IN A BLOCK -/
structure Nb (w : World) (b : Nat) (n : Nd) (u : Nv) : Prop where
  k : w.cell? ⟨b, 0, none⟩ = some (.int .i64 n.k)
  p : w.cell? ⟨b, 1, none⟩ = some u.p
  v : w.cell? ⟨b, 2, none⟩ = some u.v
  f : w.cell? ⟨b, 3, none⟩ = some (.bool n.full)
  x : w.rangeAt b 4 (rcs n.next u.x)
  kid : ∀ {i : Nat} {r : Rf}, n.kids[i]? = some r → w.rangeAt b (38 + i * 34) (rcs r (u.k i))
  all : w.rangeAt b 0 (nc n u)
theorem nb_of {w : World} {b : Nat} {n : Nd} {u : Nv} (hw : n.W) (h : w.rangeAt b 0 (nc n u)) : Nb w b n u := by
  have h0 := h
  unfold nc at h
  obtain ⟨h1, h⟩ := rng_head h
  obtain ⟨h2, h⟩ := rng_head h
  obtain ⟨h3, h⟩ := rng_head h
  obtain ⟨h4, h⟩ := rng_head h
  have h5 := rng_right h
  rw [rcs_len hw.next.1] at h5
  exact ⟨h1, h2, h3, h4, rng_left h, fun hr => rng_kid (fun r hr => (hw.kid r hr).1) h5 hr, h0⟩
theorem Nb.keep {w w' : World} {b : Nat} {n : Nd} {u : Nv} (h : Nb w b n u) (k : Below w.heap.size w w') : Nb w' b n u := by
  have hl : b < w.heap.size := World.block_lt_of_cell? _ _ h.k
  exact ⟨(k.cell hl).trans h.k, (k.cell hl).trans h.p, (k.cell hl).trans h.v, (k.cell hl).trans h.f, rng_keep h.x k, fun hr => rng_keep (h.kid hr) k, rng_keep h.all k⟩
theorem Nb.lt {w : World} {b : Nat} {n : Nd} {u : Nv} (h : Nb w b n u) : b < w.heap.size := World.block_lt_of_cell? _ _ h.k
theorem nb_new {n : Nd} (hw : n.W) (w : World) (u : Nv) : Nb (w.alloc (.cells (nc n u).toArray 29)) w.heap.size n u := nb_of hw (rng_new w _ _)
/-- A NODE's LISTS LIE IN MEMORY -/
structure Nin (w : World) (n : Nd) (u : Nv) : Prop where
  W : n.W
  p : Vb w u.p n.path
  v : Vb w u.v n.val
  x : Vb w u.x n.next.b
  k : ∀ {i : Nat} {r : Rf}, n.kids[i]? = some r → Vb w (u.k i) r.b
theorem Nin.keep {w w' : World} {n : Nd} {u : Nv} (h : Nin w n u) (k : Below w.heap.size w w') : Nin w' n u :=
  ⟨h.W, Rel.keep h.p k, Rel.keep h.v k, Rel.keep h.x k, fun hr => Rel.keep (h.k hr) k⟩
theorem vb_nil (w : World) : Vb w (.slice none 0 0) [] := ⟨none, 0, 0, 0, rfl, ⟨fun h => by simp at h, fun i hi => by simp at hi, fun i hi => by simp at hi, by simp⟩, by simp, fun _ => rfl, by simp⟩
theorem vb_one {w : World} {v : Value} {s : List Nat} (h : Vb w v s) : v.oneCell' = true := by
  obtain ⟨a, b, off, c, rfl, -⟩ := h
  rfl
theorem bv_one (s : List Nat) : ∀ v ∈ bv s, v.oneCell' = true := fun v hv => by
  obtain ⟨x, -, rfl⟩ := List.mem_map.1 hv
  rfl
theorem rcs_one {r : Rf} {v : Value} (h : v.oneCell' = true) : ∀ x ∈ rcs r v, x.oneCell' = true := fun x hx => by
  rcases List.mem_cons.1 hx with rfl | hx
  · rfl
  · rcases List.mem_append.1 hx with hx | hx
    · exact bv_one _ _ hx
    · rw [List.mem_singleton.1 hx]; exact h
theorem kcs_one {l : List Rf} : ∀ {k : Nat → Value}, (∀ i, i < l.length → (k i).oneCell' = true) → ∀ x ∈ kcs l k, x.oneCell' = true := by
  induction l with
  | nil => intro k _ x hx; cases hx
  | cons q l ih =>
    intro k h x hx
    rw [kcs] at hx
    rcases List.mem_append.1 hx with hx | hx
    · exact rcs_one (h 0 (by simp)) x hx
    · exact ih (fun i hi => h (i + 1) (by simpa using hi)) x hx
theorem Nin.one {w : World} {n : Nd} {u : Nv} (h : Nin w n u) : (nc n u).toArray.all (·.oneCell') = true := by
  refine all_oneCell_toArray (fun x hx => ?_)
  unfold nc at hx
  rcases List.mem_cons.1 hx with rfl | hx
  · rfl
  · rcases List.mem_cons.1 hx with rfl | hx
    · exact vb_one h.p
    · rcases List.mem_cons.1 hx with rfl | hx
      · exact vb_one h.v
      · rcases List.mem_cons.1 hx with rfl | hx
        · rfl
        · rcases List.mem_append.1 hx with hx | hx
          · exact rcs_one (vb_one h.x) x hx
          · exact kcs_one (fun i hi => vb_one (h.k (List.getElem?_eq_getElem hi))) x hx
/-- the zero node -/
def uz : Nv := ⟨.slice none 0 0, .slice none 0 0, .slice none 0 0, fun _ => .slice none 0 0⟩
theorem nz_w : nz.W := ⟨kz_len, rz_w, fun r hr => (kz_eq hr) ▸ rz_w, fun x hx => (by cases hx), fun x hx => (by cases hx)⟩
theorem nin_zero (w : World) : Nin w nz uz := ⟨nz_w, vb_nil w, vb_nil w, vb_nil w, fun hr => by
  rw [kz_eq (List.mem_of_getElem? hr)]
  exact vb_nil w⟩
theorem zero29 : (Try.prog.info? 29).map (fun i => (i.zero, i.size)) = some (some (.agg (nc nz uz).toArray), 582) := by kernel_rfl
theorem zv29 (w : World) : (zeroValue 29).run Try.prog w = .ok (.agg (nc nz uz).toArray) w := (zero_of_info zero29).1 w
theorem zero26 : (Try.prog.info? 26).map (fun i => (i.zero, i.size)) = some (some (.agg (rcs rz (.slice none 0 0)).toArray), 34) := by kernel_rfl
theorem zv26 (w : World) : (zeroValue 26).run Try.prog w = .ok (.agg (rcs rz (.slice none 0 0)).toArray) w := (zero_of_info zero26).1 w
theorem zero24 : (Try.prog.info? 24).map (fun i => (i.zero, i.size)) = some (some (.agg (bv z32).toArray), 32) := by kernel_rfl
theorem zv24 (w : World) : (zeroValue 24).run Try.prog w = .ok (.agg (bv z32).toArray) w := (zero_of_info zero24).1 w
/-- the hash of zeros, built -/
theorem build24 (w : World) : (Instr.build 24 #[]).run Try.prog w = .ok (.agg (bv z32).toArray) w := by
  exact run_build w 24 #[] _ (by kernel_rfl)
/-- cells laid over others -/
theorem fold_set (off : Nat) (xs : List Value) : ∀ (k : Nat) (cs : Array Value), off + k + xs.length ≤ cs.size →
    ((xs.zipIdx k).foldl (fun (cs : Array Value) (p : Value × Nat) => cs.setIfInBounds (off + p.2) p.1) cs).size = cs.size ∧
    ∀ i, ((xs.zipIdx k).foldl (fun (cs : Array Value) (p : Value × Nat) => cs.setIfInBounds (off + p.2) p.1) cs)[i]? = if off + k ≤ i ∧ i < off + k + xs.length then xs[i - (off + k)]? else cs[i]? := by
  induction xs with
  | nil => intro k cs _; exact ⟨rfl, fun i => by rw [if_neg (by simp)]; rfl⟩
  | cons x t ih =>
    intro k cs h
    simp only [List.length_cons] at h ⊢
    rw [List.zipIdx_cons, List.foldl_cons]
    obtain ⟨h1, h2⟩ := ih (k + 1) (cs.setIfInBounds (off + k) x) (by rw [Array.size_setIfInBounds]; omega)
    refine ⟨by rw [h1, Array.size_setIfInBounds], fun i => ?_⟩
    rw [h2 i]
    by_cases q : off + (k + 1) ≤ i ∧ i < off + (k + 1) + t.length
    · rw [if_pos q, if_pos (by omega), show i - (off + k) = (i - (off + (k + 1))) + 1 by omega, List.getElem?_cons_succ]
    · rw [if_neg q, Array.getElem?_setIfInBounds]
      by_cases q2 : off + k = i
      · rw [if_pos q2, if_pos (by omega), if_pos (by omega), q2, Nat.sub_self]
        rfl
      · rw [if_neg q2, if_neg (by omega)]
/-! ### laws for the walk -/
section
variable {ops : Array Oper} {rest : List Oper} {op : Oper} {a : Act} {w : World} {Q : Exit → Act → World → Prop}
/-- a node stored into a new variable -/
theorem wpList_st29 (hw : Region.wanted op (yielded ops a.tmps) = true) (x y : Operand) (ho : op.op = .store 29 x y) (n m : Nd) (u t : Nv) (hn : n.W) (hm : m.W) (h1 : (nc n u).toArray.all (·.oneCell') = true)
    (hx : a.eval x = .pointer (some ⟨w.heap.size, 0, none⟩)) (hy : a.eval y = .agg (nc n u).toArray) (h : wpList Try.prog ops Q rest (a.put op.dst undef) (w.alloc (.cells (nc n u).toArray 29))) :
    wpList Try.prog ops Q (op :: rest) a (w.alloc (.cells (nc m t).toArray 29)) := by
  refine wpList_g hw (wp_store_row 29 x y ho w.heap.size (nc n u).toArray hx hy 29 (nc m t).toArray (heap_alloc_new _ _) (by rw [List.size_toArray]; exact info_nc hn u) (by rw [List.size_toArray, List.size_toArray, nc_len hn, nc_len hm]) h1 ?_)
  rw [World.setRow_alloc_new]
  exact h
/-- a node stored into a variable -/
theorem wpList_st29b (hw : Region.wanted op (yielded ops a.tmps) = true) (x y : Operand) (ho : op.op = .store 29 x y) (b : Nat) (n m : Nd) (u t : Nv) (hn : n.W) (hm : m.W) (h1 : (nc n u).toArray.all (·.oneCell') = true) (hb : w.heap[b]? = some (.cells (nc m t).toArray 29 (0, 0)))
    (hx : a.eval x = .pointer (some ⟨b, 0, none⟩)) (hy : a.eval y = .agg (nc n u).toArray) (h : wpList Try.prog ops Q rest (a.put op.dst undef) (w.setRow b (nc n u).toArray)) :
    wpList Try.prog ops Q (op :: rest) a w :=
  wpList_g hw (wp_store_row 29 x y ho b (nc n u).toArray hx hy 29 (nc m t).toArray hb (by rw [List.size_toArray]; exact info_nc hn u) (by rw [List.size_toArray, List.size_toArray, nc_len hn, nc_len hm]) h1 h)
theorem wpList_st26 (hw : Region.wanted op (yielded ops a.tmps) = true) (x y : Operand) (ho : op.op = .store 26 x y) (r q : Rf) (v t : Value) (hr : r.h.length = 32) (hq : q.h.length = 32) (h1 : v.oneCell' = true)
    (hx : a.eval x = .pointer (some ⟨w.heap.size, 0, none⟩)) (hy : a.eval y = .agg (rcs r v).toArray) (h : wpList Try.prog ops Q rest (a.put op.dst undef) (w.alloc (.cells (rcs r v).toArray 26))) :
    wpList Try.prog ops Q (op :: rest) a (w.alloc (.cells (rcs q t).toArray 26)) := by
  refine wpList_g hw (wp_store_row 26 x y ho w.heap.size (rcs r v).toArray hx hy 26 (rcs q t).toArray (heap_alloc_new _ _) (by rw [List.size_toArray]; exact info_rcs hr v) (by rw [List.size_toArray, List.size_toArray, rcs_len hr, rcs_len hq]) (all_oneCell_toArray (rcs_one h1)) ?_)
  rw [World.setRow_alloc_new]
  exact h
theorem wpList_st26b (hw : Region.wanted op (yielded ops a.tmps) = true) (x y : Operand) (ho : op.op = .store 26 x y) (b : Nat) (r q : Rf) (v t : Value) (hr : r.h.length = 32) (hq : q.h.length = 32) (h1 : v.oneCell' = true) (hb : w.heap[b]? = some (.cells (rcs q t).toArray 26 (0, 0)))
    (hx : a.eval x = .pointer (some ⟨b, 0, none⟩)) (hy : a.eval y = .agg (rcs r v).toArray) (h : wpList Try.prog ops Q rest (a.put op.dst undef) (w.setRow b (rcs r v).toArray)) :
    wpList Try.prog ops Q (op :: rest) a w :=
  wpList_g hw (wp_store_row 26 x y ho b (rcs r v).toArray hx hy 26 (rcs q t).toArray hb (by rw [List.size_toArray]; exact info_rcs hr v) (by rw [List.size_toArray, List.size_toArray, rcs_len hr, rcs_len hq]) (all_oneCell_toArray (rcs_one h1)) h)
theorem wpList_ld29 (hw : Region.wanted op (yielded ops a.tmps) = true) (x : Operand) (ho : op.op = .load 29 x) (b : Nat) (n : Nd) (u : Nv) (hn : n.W) (hb : Nb w b n u) (hx : a.eval x = .pointer (some ⟨b, 0, none⟩))
    (h : wpList Try.prog ops Q rest (a.put op.dst (.agg (nc n u).toArray)) w) : wpList Try.prog ops Q (op :: rest) a w :=
  wpList_load_mid_g hw 29 x ho b 0 hx _ _ hb.all Try.underlying29 rfl (info_nc hn u) h
theorem wpList_ld26 (hw : Region.wanted op (yielded ops a.tmps) = true) (x : Operand) (ho : op.op = .load 26 x) (b o : Nat) (r : Rf) (v : Value) (hr : r.h.length = 32) (hb : w.rangeAt b o (rcs r v)) (hx : a.eval x = .pointer (some ⟨b, o, none⟩))
    (h : wpList Try.prog ops Q rest (a.put op.dst (.agg (rcs r v).toArray)) w) : wpList Try.prog ops Q (op :: rest) a w :=
  wpList_load_mid_g hw 26 x ho b o hx _ _ hb Try.underlying26 rfl (info_rcs hr v) h
theorem wpList_ld24 (hw : Region.wanted op (yielded ops a.tmps) = true) (x : Operand) (ho : op.op = .load 24 x) (b o : Nat) (s : List Nat) (hs : s.length = 32) (hb : w.rangeAt b o (bv s)) (hx : a.eval x = .pointer (some ⟨b, o, none⟩))
    (h : wpList Try.prog ops Q rest (a.put op.dst (.agg (bv s).toArray)) w) : wpList Try.prog ops Q (op :: rest) a w :=
  wpList_load_mid_g hw 24 x ho b o hx _ _ hb Try.underlying24 rfl (info_bv hs) h
theorem wpList_bd (hw : Region.wanted op (yielded ops a.tmps) = true) (t : TypeId) (parts : Array (Nat × Operand)) (ho : op.op = .build t parts) (cells : Array Value)
    (hb : Try.prog.built t (parts.map fun (i, x) => (i, a.eval x)).toList = some cells) (h : wpList Try.prog ops Q rest (a.put op.dst (.agg cells)) w) : wpList Try.prog ops Q (op :: rest) a w := by
  refine wpList_g hw ?_
  unfold Oper.wp execOp
  simp only [ho, Sem.run_bind, run_build w t _ cells hb, Result.andThen_ok]
  exact h
theorem built24 : Try.prog.built 24 [] = some (bv z32).toArray := by kernel_rfl
theorem built29 : Try.prog.built 29 [] = some (nc nz uz).toArray := by kernel_rfl
theorem built26 : Try.prog.built 26 [] = some (rcs rz (.slice none 0 0)).toArray := by kernel_rfl
theorem wpList_bd24 (hw : Region.wanted op (yielded ops a.tmps) = true) (ho : op.op = .build 24 #[]) (h : wpList Try.prog ops Q rest (a.put op.dst (.agg (bv z32).toArray)) w) : wpList Try.prog ops Q (op :: rest) a w :=
  wpList_bd hw _ _ ho _ (by simp only [List.map_toArray, List.map_nil]; exact built24) h
theorem wpList_bd29 (hw : Region.wanted op (yielded ops a.tmps) = true) (ho : op.op = .build 29 #[]) (h : wpList Try.prog ops Q rest (a.put op.dst (.agg (nc nz uz).toArray)) w) : wpList Try.prog ops Q (op :: rest) a w :=
  wpList_bd hw _ _ ho _ (by simp only [List.map_toArray, List.map_nil]; exact built29) h
theorem wpList_bd26 (hw : Region.wanted op (yielded ops a.tmps) = true) (ho : op.op = .build 26 #[]) (h : wpList Try.prog ops Q rest (a.put op.dst (.agg (rcs rz (.slice none 0 0)).toArray)) w) : wpList Try.prog ops Q (op :: rest) a w :=
  wpList_bd hw _ _ ho _ (by simp only [List.map_toArray, List.map_nil]; exact built26) h
end
theorem rng_ref_new (w : World) (r : Rf) (v : Value) (t : TypeId) : (w.alloc (.cells (rcs r v).toArray t)).rangeAt w.heap.size 0 (rcs r v) := rng_new w _ _
end Go.Proofs.Ytpiinkfcaoaffaa
