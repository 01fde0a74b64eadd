import Derived.Test.YtepeolbbplodfaaGreatDoorFlq
import Derived.Laws.StructEq
import Derived.Lib.Bytes
import Derived.Lib.SlBytesConst
import Derived.Test.YtepeolbbplodfaaGreatDoorFiq
/-
  itemOf: leaf and extension.
-/
namespace Go.Proofs.YtepeolbbplodfaaGreatDoor
open Go.RowKit

theorem vb_vf {w : World} {v : Value} {s : List Nat} (h : Vb w v s) : Vf (fun k => k < w.heap.size) w v s := by
  obtain ⟨a, b, off, c, h1, h2, h3, h4, h5⟩ := h
  exact ⟨a, b, off, c, h1, h2, h3, h4, h5, fun h0 => h2.lt h0⟩
theorem Vf.keep {P : Nat → Prop} {w w' : World} {v : Value} {s : List Nat} (h : Vf P w v s) (k : Below w.heap.size w w') : Vf P w' v s := h.same (fun i _ hi => k.block i hi)
theorem Lf.keep {P : Nat → Prop} {w w' : World} {x : It} {vb vi : Value} (h : Lf P w x vb vi) (k : Below w.heap.size w w') : Lf P w' x vb vi := h.same (fun i _ hi => k.block i hi)
/-- what itemOf answers -/
def IoPst (n : Nd) (w : World) (e : Ending) (w' : World) : Prop := ∃ vb vi, e = .returned (iv (nIt n).l vb vi) ∧ Lies Vb w' (nIt n) vb vi ∧ Below w.heap.size w w'
/-- a list of two -/
theorem lf_two {P : Nat → Prop} {w : World} {g c : Nat} {fr : Nat × Nat} {x y : It} {v1 v2 u1 u2 : Value} (hg : w.heap[g]? = some (.cells #[.bool x.l, v1, v2, .bool y.l, u1, u2] 191 fr)) (hP : P g) (hx : Lf P w x v1 v2) (hy : Lf P w y u1 u2) :
    Lf P w (.mk true [] [x, y]) (.slice none 0 0) (.slice (some ⟨g, 0, none⟩) 2 c) := by
  have cc : ∀ j, w.cell? ⟨g, j, none⟩ = #[.bool x.l, v1, v2, .bool y.l, u1, u2][j]? := fun j => cell_of_row _ _ _ _ _ _ hg
  refine .mk (xs := [x, y]) (some ⟨g, 0, none⟩) g 0 c (fun i => if i = 0 then v1 else u1) (fun i => if i = 0 then v2 else u2) (vf_nil P w) (fun _ => rfl) (fun _ => hP) (by simp) (fun i z hz => ?_) (fun i z hz => ?_)
  · match i, hz with
    | 0, hz => simp at hz; subst hz; exact ⟨cc 0, cc 1, cc 2⟩
    | 1, hz => simp at hz; subst hz; exact ⟨cc 3, cc 4, cc 5⟩
    | i + 2, hz => simp at hz
  · match i, hz with
    | 0, hz => simp at hz; subst hz; exact hx
    | 1, hz => simp at hz; subst hz; exact hy
    | i + 2, hz => simp at hz

end Go.Proofs.YtepeolbbplodfaaGreatDoor

/-
  itemOf: a branch.
-/
namespace Go.Proofs.YtepeolbbplodfaaGreatDoor
open Go.RowKit

theorem Lf.both {P Q : Nat → Prop} {w w' : World} (k : ∀ i, P i → i < w.heap.size → w'.heap[i]? = w.heap[i]? ∧ Q i) {x : It} {vb vi : Value} (h : Lf P w x vb vi) : Lf Q w' x vb vi :=
  (Lf.same (P := fun i => Q i ∧ w'.heap[i]? = w.heap[i]?) (fun _ hi _ => hi.2) (h.mono (fun i hi hl => ⟨(k i hi hl).2, (k i hi hl).1⟩))).mono (fun _ hi _ => hi.1)
/-- A LIST BEING MADE in the box q, r0 aside: v its items so far -/
structure Gk (W wr : World) (q r0 L : Nat) (v : Value) (xs : List It) (ys : List (Bool × Value × Value)) : Prop where
  own : wr.ownsRow L 191 3 v xs.length (fl ys)
  len : ys.length = xs.length
  hb : ∀ (i : Nat) (x : It) (y : Bool × Value × Value), xs[i]? = some x → ys[i]? = some y → y.1 = x.l
  hr : ∀ (i : Nat) (x : It) (y : Bool × Value × Value), xs[i]? = some x → ys[i]? = some y → Lf (fun k => k ≠ q ∧ k ≠ r0 ∧ v.ownBlock ≠ some k) wr x y.2.1 y.2.2
  box : Bx wr q 191 (.bool true) (.slice none 0 0) v
  lq : q < L ∧ r0 < q
  ls : L ≤ wr.heap.size
  turn : Turn (fun k => k = q) W wr
theorem Gk.start {W : World} {q r0 L : Nat} (h : Bx W q 191 (.bool true) (.slice none 0 0) (.slice none 0 0)) (hq : q < L ∧ r0 < q) (hL : L ≤ W.heap.size) : Gk W W q r0 L (.slice none 0 0) [] [] :=
  ⟨⟨rfl, Or.inl ⟨rfl, rfl⟩⟩, rfl, fun i x y hx => by simp at hx, fun i x y hx => by simp at hx, h, hq, hL, Turn.refl _ _⟩
theorem Gk.next {W wr w2 w5 : World} {q r0 L : Nat} {v v' vy vz : Value} {xs : List It} {ys : List (Bool × Value × Value)} {y : It} {o' : Obj} {P : Nat → Prop} (h : Gk W wr q r0 L v xs ys) (hW : W.heap.size = L)
    (b2 : Below wr.heap.size wr w2) (ho : Lf P w2 y vy vz) (hP : ∀ k, P k → k < w2.heap.size → k ≠ q ∧ k ≠ r0 ∧ v.ownBlock ≠ some k)
    (own' : w5.ownsRow L 191 3 v' (xs.length + 1) (fl ys ++ [.bool y.l, vy, vz])) (gr : (w2.alloc o').grownBy w5 v.ownBlock)
    (hg : ∀ g, v'.ownBlock = some g → v.ownBlock = some g ∨ w2.heap.size ≤ g) :
    Gk W (w5.setCell ⟨q, 2, none⟩ v') q r0 L v' (xs ++ [y]) (ys ++ [(y.l, vy, vz)]) := by
  have z0 := h.ls
  have z1 := h.lq
  have z2 := b2.size
  have z5 : w2.heap.size + 1 ≤ w5.heap.size := by have := gr.size; simpa using this
  have vlt : ∀ k, v.ownBlock = some k → L ≤ k ∧ k < wr.heap.size := fun k hk => h.own.lt k hk
  have key : ∀ k, k < w2.heap.size → v.ownBlock ≠ some k → k ≠ q → (w5.setCell ⟨q, 2, none⟩ v').heap[k]? = w2.heap[k]? := fun k k1 k3 k4 => by
    rw [Below.heap_setCell _ _ _ _ (fun e => k4 e), gr.block k (by simp; omega) (fun e => k3 e.symm)]
    exact heap_alloc_old _ _ k1
  have n1 : (xs ++ [y]).length = xs.length + 1 := by simp
  have e5 : (w5.setCell ⟨q, 2, none⟩ v').heap.size = w5.heap.size := by simp
  have up : ∀ k, k ≠ q ∧ k ≠ r0 ∧ v.ownBlock ≠ some k → k < w2.heap.size → k ≠ q ∧ k ≠ r0 ∧ v'.ownBlock ≠ some k := fun k hk hl => ⟨hk.1, hk.2.1, fun e => by
    rcases hg k e with z | z
    · exact hk.2.2 z
    · omega⟩
  have gt : ∀ {i : Nat} {x : It} {p : Bool × Value × Value}, (xs ++ [y])[i]? = some x → (ys ++ [(y.l, vy, vz)])[i]? = some p → (xs[i]? = some x ∧ ys[i]? = some p) ∨ (x = y ∧ p = (y.l, vy, vz)) := fun {i x p} hx hp => by
    have hl := h.len
    by_cases e : i < xs.length
    · left
      rw [List.getElem?_append_left e] at hx
      rw [List.getElem?_append_left (by omega)] at hp
      exact ⟨hx, hp⟩
    · right
      have hi := (List.getElem?_eq_some_iff.1 hx).1
      rw [n1] at hi
      have e2 : i = xs.length := by omega
      subst e2
      rw [List.getElem?_append_right (by omega)] at hx
      rw [List.getElem?_append_right (by omega)] at hp
      simp at hx
      simp [hl] at hp
      exact ⟨hx.symm, hp.symm⟩
  refine ⟨?_, by simp [h.len], fun i x p hx hp => ?_, fun i x p hx hp => ?_, ?_, z1, by omega, ?_⟩
  · rw [n1, fl_app]
    refine own_same own' (fun g hg' => ?_)
    exact Below.heap_setCell _ _ _ _ (fun e => by have := (own'.lt g hg').1; simp at e; omega)
  · rcases gt hx hp with ⟨hx, hp⟩ | ⟨rfl, rfl⟩
    · exact h.hb i x p hx hp
    · rfl
  · rcases gt hx hp with ⟨hx, hp⟩ | ⟨rfl, rfl⟩
    · have l0 := (h.hr i x p hx hp).keep b2
      exact Lf.both (fun k hk hl => ⟨key k hl hk.2.2 hk.1, up k hk hl⟩) l0
    · exact Lf.both (fun k hk hl => ⟨key k hl (hP k hk hl).2.2 (hP k hk hl).1, up k (hP k hk hl) hl⟩) ho
  · have : Bx w5 q 191 (.bool true) (.slice none 0 0) v := by
      refine h.box.keep ?_
      rw [gr.block _ (by simp; omega) (fun e2 => by have := (vlt _ e2.symm).1; omega)]
      rw [heap_alloc_old _ _ (by omega)]
      exact b2.block q (by omega)
    exact this.set2
  · refine ⟨(gr.os.trans b2.os).trans h.turn.os, (gr.tape.trans b2.tape).trans h.turn.tape, (gr.output.trans b2.output).trans h.turn.output, by rw [e5]; omega, fun k k1 k2 => ?_⟩
    rw [key k (by omega) (fun e => by have := (vlt k e).1; omega) k2, b2.block k (by omega)]
    exact h.turn.block k k1 k2

end Go.Proofs.YtepeolbbplodfaaGreatDoor

/-
  Encode, Check, num; strings compared.
-/
namespace Go.Proofs.YtepeolbbplodfaaGreatDoor
open Go.RowKit

theorem nck_all (n : Nd) : Nck n := ⟨fun _ _ => ndecode_any _, fun _ _ _ _ => ndecode_any _⟩
/-- what Encode answers -/
def eN (n : Nd) : List Nat := if mayN KD n then encN n else []
def eE (n : Nd) : Nat := if mayN KD n then 0 else 70
/-! ### strings -/
def sB (s : List Nat) : ByteArray := str s.length (fun i => ((gd s i : Nat) : Int))
theorem sB_inj {s t : List Nat} (hs : ∀ x ∈ s, x < 256) (ht : ∀ x ∈ t, x < 256) (h : sB s = sB t) : s = t := by
  have h1 : (sB s).data.toList = (sB t).data.toList := by rw [h]
  unfold sB str at h1
  rw [strOfNums_data, strOfNums_data] at h1
  have hl : s.length = t.length := by
    have := congrArg List.length h1
    simpa using this
  refine ext_gd hl (fun i hi => ?_)
  have h2 : (((List.range s.length).map (fun i => ((gd s i : Nat) : Int))).map fun n => UInt8.ofNat n.toNat)[i]? = (((List.range t.length).map (fun i => ((gd t i : Nat) : Int))).map fun n => UInt8.ofNat n.toNat)[i]? := by rw [h1]
  rw [List.getElem?_map, List.getElem?_map, List.getElem?_map, List.getElem?_map, List.getElem?_range hi, List.getElem?_range (by omega)] at h2
  have h3 : UInt8.ofNat (gd s i) = UInt8.ofNat (gd t i) := by simpa using h2
  have h4 := congrArg UInt8.toNat h3
  have a1 := gd_lt hs i
  have a2 := gd_lt ht i
  rw [UInt8.toNat_ofNat', UInt8.toNat_ofNat', Nat.mod_eq_of_lt (by omega), Nat.mod_eq_of_lt (by omega)] at h4
  exact h4
theorem sB_list (s : List Nat) : (sB s).toList = (sB s).data.toList := by
  unfold sB str
  exact Lib.strOfNums_toList _
theorem sB_ne {s t : List Nat} (hs : ∀ x ∈ s, x < 256) (ht : ∀ x ∈ t, x < 256) (h : s ≠ t) : sB s ≠ sB t ∧ ((sB s).toList == (sB t).toList) = false ∧ (sB s == sB t) = false := by
  have h1 : sB s ≠ sB t := fun e => h (sB_inj hs ht e)
  have h2 : ((sB s).toList == (sB t).toList) = false := by
    apply beq_eq_false_iff_ne.2
    intro e
    rw [sB_list, sB_list] at e
    exact h1 (ByteArray.ext (by rw [← Array.toList_inj]; exact e))
  exact ⟨h1, h2, by rw [beq_toListBytes]; exact h2⟩
theorem conv_vb {w : World} {v : Value} {s : List Nat} (h : Vb w v s) : (convert 33 9 v).run Tryz.prog w = .ok (.string (sB s)) w := by
  obtain ⟨a, b, off, c, rfl, hv, -⟩ := h
  exact convert_view hv c
theorem vb_byt {w : World} {v : Value} {s : List Nat} (h : Vb w v s) : ∀ x ∈ s, x < 256 := by
  obtain ⟨a, b, off, c, rfl, hv, -⟩ := h
  exact (vw_ok hv).2
end Go.Proofs.YtepeolbbplodfaaGreatDoor

/-
  cairnref07.SameRef, cairnref07.Same.
-/
namespace Go.Proofs.YtepeolbbplodfaaGreatDoor
open Go.RowKit

theorem kids_ext {l l' : List Rf} (h : l.length = 16) (h' : l'.length = 16) (k : ∀ i r q, i < 16 → l[i]? = some r → l'[i]? = some q → r = q) : l = l' := by
  refine List.ext_getElem (by omega) (fun i h1 h2 => k i _ _ (by omega) (List.getElem?_eq_getElem h1) (List.getElem?_eq_getElem h2))
theorem nd_ext {n m : Nd} (h1 : n.k = m.k) (h2 : n.full = m.full) (h3 : n.path = m.path) (h4 : n.val = m.val) (h5 : n.next = m.next) (h6 : n.kids = m.kids) : n = m := by
  cases n
  cases m
  simp only at h1 h2 h3 h4 h5 h6
  subst h1 h2 h3 h4 h5 h6
  rfl
end Go.Proofs.YtepeolbbplodfaaGreatDoor

/-
  known.
-/
namespace Go.Proofs.YtepeolbbplodfaaGreatDoor
open Go.RowKit

def kN : Nd := ⟨1, [1, 2, 3, 4], [120], false, rz, kz⟩
def kB : List Nat := [197, 131, 32, 18, 52, 120]
theorem kN_w : kN.W := ⟨kz_len, rz_w, kz_w, by decide, by decide⟩
theorem kN_may : mayN KD kN = true := by decide +kernel
theorem kN_enc : encN kN = kB := by decide +kernel
theorem kN_eE : eE kN = 0 := by unfold eE; rw [kN_may]; rfl
theorem kN_eN : eN kN = kB := by unfold eN; rw [kN_may, if_pos rfl, kN_enc]
theorem kB_dec : decN KD kB = some kN := by rw [← kN_enc]; exact decN_enc kN_w kN_may
theorem kB_dN : dN kB = kN := by unfold dN; rw [kB_dec]; rfl
theorem kB_dE : dE kB = 0 := by unfold dE; rw [kB_dec]; rfl
theorem kB_sB : sB kB = ⟨#[197, 131, 32, 18, 52, 120]⟩ := by kernel_rfl
theorem vb_row {w : World} {g : Nat} {s : List Nat} {fr : Nat × Nat} (h : w.heap[g]? = some (.cells (bv s).toArray 5 fr)) (hs : ∀ x ∈ s, x < 256) (hl : s.length ≤ 1048576) : Vb w (.slice (some ⟨g, 0, none⟩) s.length s.length) s :=
  ⟨_, _, _, _, rfl, ⟨fun _ => rfl, fun i hi => by
    rw [Nat.zero_add, cell_of_row _ _ _ _ 5 _ h]
    simpa using bv_at hi, fun i _ => by have := gd_lt hs i; omega, by omega⟩, Nat.le_refl _, (fun h => by cases h), by omega⟩
end Go.Proofs.YtepeolbbplodfaaGreatDoor

/-
  NodeCut: the law.
-/
namespace Go.Proofs.YtepeolbbplodfaaGreatDoor
open Go.RowKit

theorem rest_eq (n m : Int) (hm : 0 < m) : (n.tmod m + m).tmod m = n % m := by
  have h1 := Int.tmod_add_mul_tdiv n m
  have h2 : -m < n.tmod m := Int.lt_tmod_of_pos n hm
  have h3 : n.tmod m < m := Int.tmod_lt_of_pos n hm
  rw [Int.tmod_eq_emod_of_nonneg (by omega), Int.add_emod_right]
  have e : n = n.tmod m + m * n.tdiv m := by omega
  conv => rhs; rw [e]
  rw [Int.add_mul_emod_self_left]
theorem slice_hm (a : Option Addr) (n c K M : Nat) (h : K ≤ M) (hM : M ≤ c) (w : World) : (Instr.slice 33 (.slice a n c) none (some (.int .i64 K)) (some (.int .i64 M))).run Tryz.prog w = .ok (.slice a K M) w := by
  rw [run_slice_hm w 33 a n c (by rw [elem24]; exact Tryz.underlying33) .i64 .i64 K M (by omega) (by omega) (by omega), elem24, size5]
  simp only [Result.andThen, sliced]
  congr 1
  cases a <;> simp [Addr.add]
theorem sliceAt_hm (a : Option Addr) (n c K M : Nat) (h : K ≤ M) (hM : M ≤ c) (w : World) : (Instr.sliceAt 33 (.slice a n c) none (some (.int .i64 K)) (some (.int .i64 M))).run Tryz.prog w = .ok (.slice a K M) w := by
  rw [run_sliceAt_slice w 33 _ _ _ _ (by rw [elem24]; exact Tryz.underlying33), slice_hm a n c K M h hM w]
theorem dE_some {s : List Nat} {n : Nd} (h : decN KD s = some n) : dE s = 0 ∧ dN s = n := by unfold dE dN; rw [h]; exact ⟨rfl, rfl⟩
theorem dE_none {s : List Nat} (h : decN KD s = none) : dE s = 70 ∧ dN s = nz := by unfold dE dN; rw [h]; exact ⟨rfl, rfl⟩
theorem eE_yes {n : Nd} (h : mayN KD n = true) : eE n = 0 ∧ eN n = encN n := by unfold eE eN; rw [h]; exact ⟨rfl, rfl⟩
theorem eE_no {n : Nd} (h : mayN KD n = false) : eE n = 70 ∧ eN n = [] := by unfold eE eN; rw [h]; exact ⟨rfl, rfl⟩
/-- a beginning of bytes -/
theorem vb_take {w : World} {a : Option Addr} {c K M : Nat} {s : List Nat} (h : Vb w (.slice a s.length c) s) (hK : K ≤ s.length) (hM : K ≤ M) (hn : a = none → M = 0) : Vb w (.slice a (s.take K).length M) (s.take K) := by
  obtain ⟨a', b, off, c', e, hv, h1, h2, h3⟩ := h
  injection e with e1 e2 e3
  subst e1 e3
  have hl : (s.take K).length = K := by rw [List.length_take]; omega
  refine ⟨a, b, off, M, rfl, ⟨fun h0 => hv.at_ (by omega), fun i hi => ?_, fun i hi => ?_, by have := hv.len; omega⟩, by omega, hn, by omega⟩
  · have g : gd (s.take K) i = gd s i := by
      unfold gd
      rw [List.getD_eq_getElem?_getD, List.getD_eq_getElem?_getD, List.getElem?_take_of_lt (by omega)]
    rw [g]
    exact hv.cell i (by omega)
  · have := gd_lt (s := s.take K) (fun x hx => (vw_ok hv).2 x (List.mem_of_mem_take hx)) i
    omega
theorem vb_cap {w : World} {a : Option Addr} {n c : Nat} {s : List Nat} (h : Vb w (.slice a n c) s) : s.length ≤ c ∧ (a = none → s.length = 0) := by
  obtain ⟨a', b, off, c', e, hv, h1, h2, h3⟩ := h
  injection e with e1 e2 e3
  subst e1 e3
  exact ⟨h1, fun e => by have := h2 e; omega⟩
theorem vb_cells {w : World} {a : Option Addr} {n c : Nat} {p : Addr} {s : List Nat} (h : Vb w (.slice a n c) s) (ha : a = some p) (j : Nat) (z : Value) (hz : (bv s)[j]? = some z) : w.cell? (p.add j) = some z := by
  obtain ⟨a', b, off, c', e, hv, h1, h2, h3⟩ := h
  injection e with e1 e2 e3
  subst e1 e3
  have hj : j < s.length := by rw [← bv_len s]; exact (List.getElem?_eq_some_iff.1 hz).1
  have := hv.at_ (by omega)
  rw [ha] at this
  have hp : p = ⟨b, off, none⟩ := Option.some.inj this
  subst hp
  rw [bv_at hj] at hz
  rw [← hz, Go.WideShapes.add_plain]
  exact hv.cell j hj
theorem grown_none {w w' : World} (h : w.grownBy w' none) : Below w.heap.size w w' := ⟨h.os, h.tape, h.output, h.size, fun k hk => h.block k hk (fun e => by cases e)⟩
/-- bytes appended to a list that is full -/
theorem wpList_append_full {ops : Array Oper} {rest : List Oper} {o : Oper} {a : Act} {w : World} {Q : Exit → Act → World → Prop} (hgd : o.guard = none) (s x : Operand) (ho : o.op = .call { callee := .builtin .append, args := #[s, x], argTypes := #[33, 33] })
    (b t : List Nat) (n m cE cS : Nat) (aE aS : Option Addr) (hn : b.length = n) (hm : t.length = m) (hb : Vb w (.slice aE n cE) b) (ht : Vb w (.slice aS m cS) t) (h0 : 0 < n) (h1 : 0 < m) (hl : n + m ≤ 140737488355328) (hs : a.eval s = .slice aE n n) (hx : a.eval x = .slice aS m cS)
    (h : ∀ v' w', w'.ownsRow w.heap.size 5 1 v' (b ++ t).length (bv (b ++ t)) → Below w.heap.size w w' → wpList Tryz.prog ops Q rest (a.put o.dst v') w') : wpList Tryz.prog ops Q (o :: rest) a w := by
  obtain ⟨i0, hi0, hz0, hz1, hz2⟩ := info_parts Tryz.info5
  obtain ⟨c1, c2⟩ := vb_cap hb
  obtain ⟨d1, d2⟩ := vb_cap ht
  cases aS with
  | none => have := d2 rfl; omega
  | some p =>
    refine wpList_append_grows _ hgd s x 33 ho 5 i0 (.int .u8 0) 1 1 Tryz.underlying33 hi0 hz0 hz1 hz2 rfl (by decide) aE n n (bv b) hs (fun e => by have := c2 e; omega) (by rw [bv_len, hn]; omega) (fun p hp j z hz => vb_cells hb hp j z hz) p m cS (bv t) hx (by rw [bv_len, hm]; omega) (fun j z hz => vb_cells ht rfl j z hz) (bv_one t) (by omega) (by unfold maxLen; omega) (by omega) (fun v' w' own gr => h v' w' ?_ (grown_none gr))
    rw [bv_app, List.length_append, hn, hm]
    exact own
/-- Decode of bytes that are none -/
theorem ndec_none {w : World} {v : Value} {s : List Nat} (h : Vb w v s) (hd : decN KD s = none) : Calls Tryz.prog 107 #[v] w fun e w' => ∃ u, e = .returned (.tuple #[.agg (nc nz u).toArray, .int .i64 70]) ∧ (nc nz u).toArray.all (·.oneCell') = true ∧ Below w.heap.size w w' := by
  refine (ndecode_any s w v h).mono ?_
  rintro e w' ⟨u, rfl, no, b⟩
  obtain ⟨e1, e2⟩ := dE_none hd
  rw [e2] at no
  exact ⟨u, by rw [e1, e2]; rfl, no.inn.one, b⟩
theorem ndec_some {w : World} {v : Value} {s : List Nat} {n : Nd} (h : Vb w v s) (hd : decN KD s = some n) : Calls Tryz.prog 107 #[v] w fun e w' => ∃ u, e = .returned (.tuple #[.agg (nc n u).toArray, .int .i64 0]) ∧ Nout w.heap.size w' n u ∧ Below w.heap.size w w' := by
  refine (ndecode_any s w v h).mono ?_
  rintro e w' ⟨u, rfl, no, b⟩
  obtain ⟨e1, e2⟩ := dE_some hd
  rw [e2] at no
  exact ⟨u, by rw [e1, e2]; rfl, no, b⟩

set_option maxRecDepth 100000 in
set_option maxHeartbeats 1600000 in
theorem ndec_bad {w : World} {a : Option Addr} {b off c : Nat} {s : List Nat} {p e : Nat} (hv : Vw w a b off s) (hc : s.length ≤ c) (hl : s.length ≤ 140737488355328) (hd : dec s = .bad p e) : Calls Tryz.prog 107 #[.slice a s.length c] w (DecPst s w) := by
  have hz := zv29
  have B0 : Below w.heap.size w (w.alloc (.cells (nc nz uz).toArray 110)) := below_alloc _ _
  have K := decode_any _ a b off c s (hv.below B0) hc hl
  have g0 := heap_alloc_new w (.cells (nc nz uz).toArray 110)
  have HG : Hid ((w.alloc (.cells (nc nz uz).toArray 110)).heap[w.heap.size]? = some (.cells (nc nz uz).toArray 110 (0, 0)) ∧ Below w.heap.size w (w.alloc (.cells (nc nz uz).toArray 110)) ∧ (w.alloc (.cells (nc nz uz).toArray 110)).heap.size = w.heap.size + 1) := ⟨g0, B0, by simp⟩
  have hE : decE s = e := by unfold decE; rw [hd]
  have hX : True := trivial
  have HN : Hid (decN KD s = none) := by show _ = _; unfold decN; rw [hd]
  clear hv hc g0 B0
  have he : decE s ≠ 0 := by rw [hE]; exact dec_bad hd
  obtain ⟨de, ede⟩ : ∃ d, d = decE s := ⟨_, rfl⟩
  obtain ⟨dp', edp⟩ : ∃ d, d = decP s := ⟨_, rfl⟩
  obtain ⟨xl, exl⟩ : ∃ d, d = (decX s).l := ⟨_, rfl⟩
  have j0 : ((de : Int) != 0) = true := by simp; omega
  have j0b : ¬ (de : Int) = 0 := by omega
  unfold DecPost at K
  rw [← ede, ← edp, ← exl] at K
  clear hd hE hX ede edp he exl
  go_enter Tryz.func107, Tryz.ntmps107
  go_wp2_with (first
    | (go_at_call 125; refine K.mono ?_; rintro e' w1 ⟨vb, vi, rfl, ho, b1⟩; obtain ⟨a1, n1, k1, a2, n2, k2, rfl, rfl⟩ := ho.lies.form; have HB : Hid (Below w.heap.size w w1) := ch HG.out.2.1 b1; have g1 := (b1.block w.heap.size (by rw [HG.out.2.2]; omega)).trans HG.out.1; have g2 := (heap_alloc_old w1 (.cells #[.bool xl, .slice a1 n1 k1, .slice a2 n2 k2] 191) (Array.getElem?_eq_some_iff.1 g1).1).trans g1; have B2 : Hid (Below w.heap.size w (w1.alloc (.cells #[.bool xl, .slice a1 n1 k1, .slice a2 n2 k2] 191))) := ch HB.out (below_alloc _ _); clear b1 ho g1 K)
    | refine wpList_bd29 (by kernel_rfl) (by rfl) ?_
    | refine wpList_st29b (by kernel_rfl) _ _ (by rfl) w.heap.size nz nz uz uz nz_w nz_w (nin_zero w).one g2 (by rfl) (by rfl) ?_)
  have hr3 := setRow_heap (w1.alloc (.cells #[.bool xl, .slice a1 n1 k1, .slice a2 n2 k2] 191)) w.heap.size _ (nc nz uz).toArray _ _ g2
  refine bodyPost_ret (res2n rfl _ _ w.heap.size _ _ _ nz_w (rng_row hr3) rfl rfl) rfl ?_
  have e1 : dN s = nz := by unfold dN; rw [HN.out]; rfl
  have e2 : dE s = 70 := by unfold dE; rw [HN.out]; rfl
  exact ⟨uz, by rw [e1, e2]; rfl, by rw [e1]; exact nout_zero _ _, below_setRow B2.out (by omega) _⟩
/-- an encoding with bytes behind it -/
theorem dec_more_bad {n : Nd} (hw : n.W) (hm : mayN KD n = true) {t : List Nat} (ht : 0 < t.length) : ∃ p e, dec (encN n ++ t) = .bad p e := by
  have ni := ni_may hw hm
  have hlen : (encN n ++ t).length = (encN n).length + t.length := List.length_append
  unfold dec
  by_cases q : 1048576 < (encN n ++ t).length
  · rw [if_pos q]; exact ⟨_, _, rfl⟩
  · rw [if_neg q]
    have hat : At (encN n ++ t) 0 (encN n) := fun i hi => by rw [Nat.zero_add, gd_app_l hi]
    rw [rd_form (nIt n) (encN n ++ t) 80 0 _ ni.may ni.dp (by have := ni.len; omega) hat (by rw [hlen]; unfold encN; omega) (Nat.le_refl _)]
    dsimp only
    rw [if_pos (by rw [hlen]; unfold encN; omega)]
    exact ⟨_, _, rfl⟩
theorem ndec_more {w : World} {B : Nat} {n : Nd} {t : List Nat} {v : Value} (hw : n.W) (hm : mayN KD n = true) (ht : 0 < t.length) (ho : w.ownsRow B 5 1 v (encN n ++ t).length (bv (encN n ++ t))) (hb : ∀ x ∈ encN n ++ t, x < 256) (hl : (encN n ++ t).length ≤ 140737488355328) :
    Calls Tryz.prog 107 #[v] w fun e w' => ∃ u, e = .returned (.tuple #[.agg (nc nz u).toArray, .int .i64 70]) ∧ (nc nz u).toArray.all (·.oneCell') = true ∧ Below w.heap.size w w' := by
  obtain ⟨p, e, hd⟩ := dec_more_bad hw hm ht
  have st : Str w (fun _ => True) v (encN n ++ t) := ⟨own_base ho, fun _ _ => trivial, ⟨by omega, hb⟩⟩
  obtain ⟨a, g, c, rfl, hc, hv, -⟩ := st.view
  refine (ndec_bad hv hc hl hd).mono ?_
  rintro e w' ⟨u, rfl, no, b⟩
  obtain ⟨e1, e2⟩ := dE_none (decN_more hw hm ht)
  rw [e2] at no
  exact ⟨u, by rw [e1, e2]; rfl, no.inn.one, b⟩

end Go.Proofs.YtepeolbbplodfaaGreatDoor

/-
  NodeRound: laws of one operation.
-/
namespace Go.Proofs.YtepeolbbplodfaaGreatDoor
open Go.RowKit

theorem vb_view {w : World} {a : Option Addr} {n c : Nat} {s : List Nat} (h : Vb w (.slice a n c) s) : ∃ b off, Vw w a b off s ∧ (a = none → c = 0) := by
  obtain ⟨a', b, off, c', e, hv, h1, h2, h3⟩ := h
  injection e with e1 e2 e3
  subst e1 e3
  exact ⟨b, off, hv, h2⟩
section
variable {ops : Array Oper} {S : World → Prop} {o : Oper} {a : Act}
theorem y_eqlIr (hw : Region.wanted o (yielded ops a.tmps) = true) (x y : Operand) (ho : o.op = .binOp .eql 3 x y 3) (d d' : Int) (hx : a.eval x = .int .i64 d) (hy : a.eval y = .int .i64 d') (r : Bool) (hr : (d == d') = r) : YieldsIf Tryz.prog ops S o (.bool r) a :=
  .inl ⟨hw, fun w _ => by
    unfold execOp
    simp only [ho, hx, hy]
    subst hr
    go_simp⟩
theorem y_eqlSr (hw : Region.wanted o (yielded ops a.tmps) = true) (x y : Operand) (ho : o.op = .binOp .eql 9 x y 9) (s s' : ByteArray) (hx : a.eval x = .string s) (hy : a.eval y = .string s') (r : Bool) (hr : (s.toList == s'.toList) = r) : YieldsIf Tryz.prog ops S o (.bool r) a :=
  .inl ⟨hw, fun w _ => by
    unfold execOp
    simp only [ho, hx, hy]
    subst hr
    go_simp⟩
theorem y_neqBs (hw : Region.wanted o (yielded ops a.tmps) = true) (x y : Operand) (ho : o.op = .binOp .neq 4 x y 4) (b : Bool) (hx : a.eval x = .bool b) (hy : a.eval y = .bool b) : YieldsIf Tryz.prog ops S o (.bool false) a :=
  .inl ⟨hw, fun w _ => by
    have e : (b != b) = false := by simp
    unfold execOp
    simp only [ho, hx, hy]
    go_simp⟩
end
end Go.Proofs.YtepeolbbplodfaaGreatDoor

/-
  Laws of one operation in a drawn region, for the reference.
-/
namespace Go.Proofs.YtepeolbbplodfaaGreatDoor
open Go.RowKit

section
variable {ops : Array Oper} {S : World → Prop} {o : Oper} {a : Act}
theorem y_len22 (hw : Region.wanted o (yielded ops a.tmps) = true) (x : Operand) (ho : o.op = .call { callee := .builtin .len, args := #[x], argTypes := #[33] }) (p : Option Addr) (n c : Nat) (hx : a.eval x = .slice p n c) : YieldsIf Tryz.prog ops S o (.int .i64 (n : Int)) a :=
  .inl ⟨hw, fun w _ => by
    unfold execOp
    simp only [ho, resolve, List.map_toArray, List.map_cons, List.map_nil, hx]
    go_simp⟩
theorem y_neqIr (hw : Region.wanted o (yielded ops a.tmps) = true) (x y : Operand) (ho : o.op = .binOp .neq 3 x y 3) (d d' : Int) (hx : a.eval x = .int .i64 d) (hy : a.eval y = .int .i64 d') (r : Bool) (hr : (d != d') = r) : YieldsIf Tryz.prog ops S o (.bool r) a :=
  .inl ⟨hw, fun w _ => by
    unfold execOp
    simp only [ho, hx, hy]
    subst hr
    go_simp⟩
theorem y_lssIr (hw : Region.wanted o (yielded ops a.tmps) = true) (x y : Operand) (ho : o.op = .binOp .lss 3 x y 3) (d d' : Int) (hx : a.eval x = .int .i64 d) (hy : a.eval y = .int .i64 d') (r : Bool) (hr : decide (d < d') = r) : YieldsIf Tryz.prog ops S o (.bool r) a :=
  .inl ⟨hw, fun w _ => by
    unfold execOp
    simp only [ho, hx, hy]
    subst hr
    go_simp⟩
theorem y_geqIr (hw : Region.wanted o (yielded ops a.tmps) = true) (x y : Operand) (ho : o.op = .binOp .geq 3 x y 3) (d d' : Int) (hx : a.eval x = .int .i64 d) (hy : a.eval y = .int .i64 d') (r : Bool) (hr : decide (d' ≤ d) = r) : YieldsIf Tryz.prog ops S o (.bool r) a :=
  .inl ⟨hw, fun w _ => by
    unfold execOp
    simp only [ho, hx, hy]
    subst hr
    go_simp⟩
theorem y_eqlBr (hw : Region.wanted o (yielded ops a.tmps) = true) (x y : Operand) (ho : o.op = .binOp .eql 4 x y 4) (d d' : Bool) (hx : a.eval x = .bool d) (hy : a.eval y = .bool d') (r : Bool) (hr : (d == d') = r) : YieldsIf Tryz.prog ops S o (.bool r) a :=
  .inl ⟨hw, fun w _ => by
    unfold execOp
    simp only [ho, hx, hy]
    subst hr
    go_simp⟩
theorem y_eqlHr (hw : Region.wanted o (yielded ops a.tmps) = true) (x y : Operand) (ho : o.op = .binOp .eql 31 x y 31) (u v : Array Value) (hx : a.eval x = .agg u) (hy : a.eval y = .agg v) (r : Bool) (he : ∀ w0 : World, (Op.equalIn 10000 31 (.agg u) (.agg v)).run Tryz.prog w0 = .ok r w0) : YieldsIf Tryz.prog ops S o (.bool r) a :=
  .inl ⟨hw, fun w _ => by
    have e := he w
    unfold execOp
    simp only [ho, hx, hy]
    go_simp⟩
end
end Go.Proofs.YtepeolbbplodfaaGreatDoor
