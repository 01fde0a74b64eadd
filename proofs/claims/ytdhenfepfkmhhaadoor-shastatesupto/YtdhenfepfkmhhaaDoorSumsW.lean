/-
  ShaSums: two lists of lists that grow in turns.
-/
import Derived.Test.YtdhenfepfkmhhaaDoorHelp
namespace Go.Proofs.YtdhenfepfkmhhaaDoor
open Go.RowKit

def svals (F : Nat → Value) (k : Nat) : List Value := (List.range k).map F
theorem svals_succ (F : Nat → Value) (k : Nat) : svals F k ++ [F k] = svals F (k + 1) := by
  unfold svals
  rw [List.range_succ]
  simp
theorem svals_congr {F G : Nat → Value} {k : Nat} (h : ∀ i, i < k → F i = G i) : svals F k = svals G k := by
  unfold svals
  refine List.map_congr_left (fun i hi => ?_)
  rw [h i (by simpa using hi)]
theorem own_keep {w w' : World} {B e s n : Nat} {v : Value} {xs : List Value} (h : w.ownsRow B e s v n xs) (hb : ∀ g, v.ownBlock = some g → w'.heap[g]? = w.heap[g]?) : w'.ownsRow B e s v n xs := by
  refine ⟨h.1, ?_⟩
  rcases h.2 with h0 | ⟨g, cap, cur, hv, hB, hg, r⟩
  · exact Or.inl h0
  · exact Or.inr ⟨g, cap, cur, hv, hB, (hb g (by rw [hv]; rfl)).trans hg, r⟩

theorem info24 : (Tryd.prog.info? 24).map (fun i => (i.zero, i.size, i.bytes)) = some (some (.slice none 0 0), 1, 24) := by kernel_rfl

/-- one list more -/
theorem wpList_append_one {w : World} {ops : Array Oper} {rest : List Oper} {o : Oper} {a : Act} {Q : Exit → Act → World → Prop} (hgd : o.guard = none) (s x : Operand)
    (ho : o.op = .call { callee := .builtin .append, args := #[s, x], argTypes := #[32, 32] }) (base : Nat) (v : Value) (k : Nat) (xs : List Value) (hs : a.eval s = v) (hown : w.ownsRow base 24 1 v k xs)
    (b : Nat) (c : Nat) (u : Value) (hx : a.eval x = .slice (some ⟨b, 0, none⟩) 1 c) (hu : w.cell? ⟨b, 0, none⟩ = some u) (h1 : u.oneCell' = true) (hk : k ≤ 1099511627776) (hbase : base ≤ w.heap.size) (H : Nat) (hH : w.heap.size = H)
    (h : ∀ g cap w', w'.ownsRow base 24 1 (.slice (some ⟨g, 0, none⟩) (k + 1) cap) (k + 1) (xs ++ [u]) → w.grownBy w' v.ownBlock → (v.ownBlock = some g ∨ g = H) → g < w'.heap.size → wpList Tryd.prog ops Q rest (a.put o.dst (.slice (some ⟨g, 0, none⟩) (k + 1) cap)) w') : wpList Tryd.prog ops Q (o :: rest) a w := by
  obtain ⟨i0, hi0, hz0, hz1, hz2⟩ := info_parts info24
  refine wpList_append_lies _ hgd s x 32 ho base 24 i0 (.slice none 0 0) 1 24 Tryd.underlying32 hi0 hz0 hz1 hz2 rfl (by decide) v k xs hs hown ⟨b, 0, none⟩ 1 c [u] hx rfl ?_ ?_ (by decide) (by unfold maxLen; omega) (by omega) hbase H hH h
  · intro j y hy
    have hj : j = 0 := by
      have := (List.getElem?_eq_some_iff.1 hy).1
      simpa using this
    subst hj
    have e : y = u := by simpa using hy.symm
    subst e
    rw [Go.WideShapes.add_plain]
    exact hu
  · intro y hy
    simp only [List.mem_singleton] at hy
    rw [hy]
    exact h1

def upd (f : Nat → Nat) (k x : Nat) (i : Nat) : Nat := if i = k then x else f i
theorem upd_at (f : Nat → Nat) (k x : Nat) : upd f k x k = x := by unfold upd; rw [if_pos rfl]
theorem upd_lt {f : Nat → Nat} {k x i : Nat} (h : i < k) : upd f k x i = f i := by unfold upd; rw [if_neg (by omega)]

def F1 (g cap m : Nat → Nat) (i : Nat) : Value := .slice (some ⟨g i, 0, none⟩) (m i) (cap i)
def F2 (g cap m : Nat → Nat) (i : Nat) : Value := .slice (some ⟨g i, 0, none⟩) (m i + 2) (cap i)
structure Sms (w wr : World) (k : Nat) (m : Nat → Nat) (Y : Nat → Nat → Nat) (vi vo : Value) (g cap : Nat → Nat) : Prop where
  below : Below w.heap.size w wr
  own1 : wr.ownsRow w.heap.size 24 1 vi k (svals (F1 g cap m) k)
  own2 : wr.ownsRow w.heap.size 24 1 vo k (svals (F2 g cap m) k)
  ne : ∀ b, vi.ownBlock = some b → vo.ownBlock ≠ some b
  far : ∀ i, i < k → w.heap.size ≤ g i ∧ g i < wr.heap.size ∧ vi.ownBlock ≠ some (g i) ∧ vo.ownBlock ≠ some (g i)
  row : ∀ i, i < k → ∀ j, j < m i + 2 → wr.cell? ⟨g i, j, none⟩ = some (.int .u8 (rm (m i) (fun t => (Y i t : Int)) j))
  room : ∀ i, i < k → m i + 2 ≤ cap i
theorem Sms.step {w wr w' : World} {k : Nat} {m : Nat → Nat} {Y : Nat → Nat → Nat} {vi vo : Value} {g cap : Nat → Nat} (h : Sms w wr k m Y vi vo g cap) (hb : Below wr.heap.size wr w') : Sms w w' k m Y vi vo g cap :=
  ⟨h.below.trans (hb.mono h.below.size), own_keep h.own1 (fun b e => hb.block b (h.own1.lt b e).2), own_keep h.own2 (fun b e => hb.block b (h.own2.lt b e).2), h.ne,
    fun i hi => ⟨(h.far i hi).1, Nat.lt_of_lt_of_le (h.far i hi).2.1 hb.size, (h.far i hi).2.2⟩, fun i hi j hj => (hb.cell (p := ⟨g i, j, none⟩) (h.far i hi).2.1).trans (h.row i hi j hj), h.room⟩
/-- one copy more, in both lists -/
theorem Sms.push {w w0 w1 w2 w3 : World} {k : Nat} {m : Nat → Nat} {Y : Nat → Nat → Nat} {vi vo : Value} {g cap : Nat → Nat} {o1 o2 : Obj} {gg cg g1 c1 g2 c2 : Nat} (S : Sms w w0 k m Y vi vo g cap) (hb1 : Below w0.heap.size w0 w1)
    (hg0 : w0.heap.size ≤ gg) (hg1 : gg < w1.heap.size) (hrow : ∀ j, j < m k + 2 → w1.cell? ⟨gg, j, none⟩ = some (.int .u8 (rm (m k) (fun t => (Y k t : Int)) j))) (hroom : m k + 2 ≤ cg)
    (hw2 : (w1.alloc o1).grownBy w2 vi.ownBlock) (own1 : w2.ownsRow w.heap.size 24 1 (.slice (some ⟨g1, 0, none⟩) (k + 1) c1) (k + 1) (svals (F1 g cap m) k ++ [.slice (some ⟨gg, 0, none⟩) (m k) cg])) (hat1 : vi.ownBlock = some g1 ∨ g1 = (w1.alloc o1).heap.size) (hl1 : g1 < w2.heap.size)
    (hw3 : (w2.alloc o2).grownBy w3 vo.ownBlock) (own2 : w3.ownsRow w.heap.size 24 1 (.slice (some ⟨g2, 0, none⟩) (k + 1) c2) (k + 1) (svals (F2 g cap m) k ++ [.slice (some ⟨gg, 0, none⟩) (m k + 2) cg])) (hat2 : vo.ownBlock = some g2 ∨ g2 = (w2.alloc o2).heap.size) (_ : g2 < w3.heap.size) :
    Sms w w3 (k + 1) m Y (.slice (some ⟨g1, 0, none⟩) (k + 1) c1) (.slice (some ⟨g2, 0, none⟩) (k + 1) c2) (upd g k gg) (upd cap k cg) := by
  have S1 := S.step hb1
  have z1 := hb1.size
  have z2 := hw2.size
  have z3 := hw3.size
  rw [World.size_alloc] at z2 z3 hat1 hat2
  have lo := S.below.size
  have li : ∀ b, vi.ownBlock = some b → b < w0.heap.size := fun b e => (S.own1.lt b e).2
  have lv : ∀ b, vo.ownBlock = some b → b < w0.heap.size := fun b e => (S.own2.lt b e).2
  have k12 : ∀ b, b < w1.heap.size → vi.ownBlock ≠ some b → w2.heap[b]? = w1.heap[b]? := fun b hb hn => by
    rw [hw2.block b (by rw [World.size_alloc]; omega) (fun e => hn e.symm), heap_alloc_old _ _ hb]
  have k23 : ∀ b, b < w2.heap.size → vo.ownBlock ≠ some b → w3.heap[b]? = w2.heap[b]? := fun b hb hn => by
    rw [hw3.block b (by rw [World.size_alloc]; omega) (fun e => hn e.symm), heap_alloc_old _ _ hb]
  have n1 : vo.ownBlock ≠ some g1 := fun e => by
    rcases hat1 with h | h
    · exact S.ne g1 h e
    · have := lv g1 e
      omega
  have b12 : Below w.heap.size w1 w2 := ⟨hw2.os, hw2.tape, hw2.output, by omega, fun b hb => k12 b (by omega) (fun e => by have := (S.own1.lt b e).1; omega)⟩
  have b23 : Below w.heap.size w2 w3 := ⟨hw3.os, hw3.tape, hw3.output, by omega, fun b hb => k23 b (by omega) (fun e => by have := (S.own2.lt b e).1; omega)⟩
  refine ⟨(S1.below.trans b12).trans b23, ?_, ?_, ?_, ?_, ?_, ?_⟩
  · have e : svals (F1 (upd g k gg) (upd cap k cg) m) (k + 1) = svals (F1 g cap m) k ++ [.slice (some ⟨gg, 0, none⟩) (m k) cg] := by
      rw [← svals_succ, svals_congr (G := F1 g cap m) (fun i hi => by unfold F1; rw [upd_lt hi, upd_lt hi])]
      unfold F1
      rw [upd_at, upd_at]
    rw [e]
    exact own_keep own1 (fun b e => by
      have : b = g1 := by simpa [Value.ownBlock] using e.symm
      subst this
      exact k23 b hl1 n1)
  · have e : svals (F2 (upd g k gg) (upd cap k cg) m) (k + 1) = svals (F2 g cap m) k ++ [.slice (some ⟨gg, 0, none⟩) (m k + 2) cg] := by
      rw [← svals_succ, svals_congr (G := F2 g cap m) (fun i hi => by unfold F2; rw [upd_lt hi, upd_lt hi])]
      unfold F2
      rw [upd_at, upd_at]
    rw [e]
    exact own2
  · intro b e e2
    have h1 : b = g1 := by simpa [Value.ownBlock] using e.symm
    have h2 : b = g2 := by simpa [Value.ownBlock] using e2.symm
    rcases hat2 with h | h
    · exact n1 (by rw [h, ← h1, ← h2])
    · omega
  · intro i hi
    by_cases e : i = k
    · subst e
      rw [upd_at]
      refine ⟨by omega, by omega, fun e => ?_, fun e => ?_⟩
      · have h1 : g1 = gg := by simpa [Value.ownBlock] using e
        rcases hat1 with h | h
        · have := li g1 h; omega
        · omega
      · have h1 : g2 = gg := by simpa [Value.ownBlock] using e
        rcases hat2 with h | h
        · have := lv g2 h; omega
        · omega
    · have hi' : i < k := by omega
      rw [upd_lt hi']
      have f := S.far i hi'
      refine ⟨f.1, by omega, fun e => ?_, fun e => ?_⟩
      · have h1 : g1 = g i := by simpa [Value.ownBlock] using e
        rcases hat1 with h | h
        · exact f.2.2.1 (by rw [h, h1])
        · omega
      · have h1 : g2 = g i := by simpa [Value.ownBlock] using e
        rcases hat2 with h | h
        · exact f.2.2.2 (by rw [h, h1])
        · omega
  · intro i hi j hj
    by_cases e : i = k
    · subst e
      rw [upd_at]
      have c := hrow j hj
      rw [← c]
      refine World.cell?_of_block ?_
      show w3.heap[gg]? = w1.heap[gg]?
      rw [k23 gg (by omega) (fun e => by have := lv gg e; omega), k12 gg hg1 (fun e => by have := li gg e; omega)]
    · have hi' : i < k := by omega
      rw [upd_lt hi']
      have f := S.far i hi'
      rw [← S1.row i hi' j hj]
      refine World.cell?_of_block ?_
      show w3.heap[g i]? = w1.heap[g i]?
      rw [k23 (g i) (by omega) f.2.2.2, k12 (g i) (by omega) f.2.2.1]
  · intro i hi
    by_cases e : i = k
    · subst e
      rw [upd_at]
      exact hroom
    · rw [upd_lt (by omega)]
      exact S.room i (by omega)
end Go.Proofs.YtdhenfepfkmhhaaDoor
