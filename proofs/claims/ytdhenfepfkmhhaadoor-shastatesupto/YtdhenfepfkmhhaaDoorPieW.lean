/-
  ShaPieces: what its loop keeps.
-/
import Derived.Test.YtdhenfepfkmhhaaDoorRest
import Derived.Test.YtdhenfepfkmhhaaDoorSumsL
namespace Go.Proofs.YtdhenfepfkmhhaaDoor
open Go.RowKit

theorem elem24 : Tryd.prog.elem 24 = 5 := by kernel_rfl
theorem size5 (w : World) : (sizeOf 5).run Tryd.prog w = .ok 1 w := by
  have := info5size
  cases hq : Tryd.prog.info? 5 with
  | none => simp [hq] at this
  | some i => simp [hq] at this; simp [sizeOf, typeInfo, hq, this]
theorem slice_upto (a : Option Addr) (n c K : Nat) (h : K ≤ c) (w : World) : (Instr.slice 24 (.slice a n c) none (some (.int .i64 K)) none).run Tryd.prog w = .ok (.slice a K c) w := by
  rw [run_slice_h w 24 a n c (by rw [elem24]; exact Tryd.underlying24) .i64 K (by omega) (by omega), elem24, size5]
  simp only [Result.andThen, sliced]
  congr 1
  cases a <;> simp [Addr.add]
theorem sliceAt_upto (a : Option Addr) (n c K : Nat) (h : K ≤ c) (w : World) : (Instr.sliceAt 24 (.slice a n c) none (some (.int .i64 K)) none).run Tryd.prog w = .ok (.slice a K c) w := by
  rw [run_sliceAt_slice w 24 _ _ _ _ (by rw [elem24]; exact Tryd.underlying24), slice_upto a n c K h w]
/-- where a list begins behind its first K -/
def behind (a : Option Addr) (c K : Nat) : Option Addr := if c = K then a else a.map (·.add K)
theorem slice_from (a : Option Addr) (n c K : Nat) (h : K ≤ n) (w : World) : (Instr.slice 24 (.slice a n c) (some (.int .i64 K)) none none).run Tryd.prog w = .ok (.slice (behind a c K) (n - K) (c - K)) w := by
  rw [run_slice_l w 24 a n c (by rw [elem24]; exact Tryd.underlying24) .i64 K (by omega) (by omega), elem24, size5]
  simp only [Result.andThen, sliced, behind]
  simp
theorem sliceAt_from (a : Option Addr) (n c K : Nat) (h : K ≤ n) (w : World) : (Instr.sliceAt 24 (.slice a n c) (some (.int .i64 K)) none none).run Tryd.prog w = .ok (.slice (behind a c K) (n - K) (c - K)) w := by
  rw [run_sliceAt_slice w 24 _ _ _ _ (by rw [elem24]; exact Tryd.underlying24), slice_from a n c K h w]

/-- what is left of the bytes behind t of them -/
structure Left (w : World) (a : Option Addr) (b o N t c : Nat) (X : Nat → Nat) : Prop where
  view : View w a b (o + t) (N - t) (fun i => (X (t + i) : Int))
  cap : N - t ≤ c
  nil : a = none → c = 0
theorem Left.behind {w : World} {a : Option Addr} {b o N t c : Nat} {X : Nat → Nat} (h : Left w a b o N t c X) (n : Nat) (hn : n ≤ N - t) : Left w (behind a c n) b o N (t + n) (c - n) X := by
  have l := h.view.len
  have cp := h.cap
  refine ⟨⟨fun h0 => ?_, fun i hi => ?_, fun i hi => ?_, by omega⟩, by omega, fun e => ?_⟩
  · have ha := h.view.at_ (by omega)
    unfold Go.Proofs.YtdhenfepfkmhhaaDoor.behind
    rw [if_neg (by omega), ha]
    simp only [Option.map_some, Option.some.injEq]
    rw [Go.WideShapes.add_plain]
    congr 1
    omega
  · have c1 := h.view.cell (n + i) (by omega)
    rw [show o + t + (n + i) = o + (t + n) + i by omega, show t + (n + i) = t + n + i by omega] at c1
    exact c1
  · have c1 := h.view.bd (n + i) (by omega)
    rw [show t + (n + i) = t + n + i by omega] at c1
    exact c1
  · unfold Go.Proofs.YtdhenfepfkmhhaaDoor.behind at e
    split at e
    · have := h.nil e; omega
    · have : a = none := by cases a with | none => rfl | some x => cases e
      have := h.nil this
      omega
theorem Left.below {w w' : World} {a : Option Addr} {b o N t c : Nat} {X : Nat → Nat} (h : Left w a b o N t c X) (hb : Below w.heap.size w w') : Left w' a b o N t c X := ⟨h.view.below hb, h.cap, h.nil⟩

/-- the pieces so far: k of them, t bytes -/
structure Pcs (w wr : World) (p k t : Nat) (X : Nat → Nat) (vp : Value) (g cap mf : Nat → Nat) : Prop where
  below : Below w.heap.size w wr
  st : St wr p t X
  lo : w.heap.size ≤ p
  own : wr.ownsRow w.heap.size 24 1 vp k (svals (F1 g cap mf) k)
  np : vp.ownBlock ≠ some p
  far : ∀ i, i < k → w.heap.size ≤ g i ∧ g i < wr.heap.size ∧ vp.ownBlock ≠ some (g i) ∧ g i ≠ p
  row : ∀ i, i < k → ∀ j, j < mf i → wr.cell? ⟨g i, j, none⟩ = some (.int .u8 (X (tot mf i + j)))
  room : ∀ i, i < k → mf i ≤ cap i
  sum : tot mf k = t
theorem Pcs.step {w wr w' : World} {p k t : Nat} {X : Nat → Nat} {vp : Value} {g cap mf : Nat → Nat} (h : Pcs w wr p k t X vp g cap mf) (hb : Below wr.heap.size wr w') : Pcs w w' p k t X vp g cap mf :=
  ⟨h.below.trans (hb.mono h.below.size), h.st.below hb, h.lo, own_keep h.own (fun b e => hb.block b (h.own.lt b e).2), h.np,
    fun i hi => ⟨(h.far i hi).1, Nat.lt_of_lt_of_le (h.far i hi).2.1 hb.size, (h.far i hi).2.2⟩, fun i hi j hj => (hb.cell (p := ⟨g i, j, none⟩) (h.far i hi).2.1).trans (h.row i hi j hj), h.room, h.sum⟩
theorem Pcs.start {w wr : World} {p : Nat} {X : Nat → Nat} (hb : Below w.heap.size w wr) (hs : St wr p 0 X) (hp : w.heap.size ≤ p) : Pcs w wr p 0 0 X (.slice none 0 0) (fun _ => 0) (fun _ => 0) (fun _ => 0) :=
  ⟨hb, hs, hp, World.ownsRow_nil _ _ _ _, by simp [Value.ownBlock], fun i hi => absurd hi (by omega), fun i hi => absurd hi (by omega), fun i hi => absurd hi (by omega), rfl⟩
theorem tot_upd (mf : Nat → Nat) (k x : Nat) : ∀ i, i ≤ k → tot (upd mf k x) i = tot mf i
  | 0, _ => rfl
  | i + 1, h => by
    simp only [tot]
    rw [tot_upd mf k x i (by omega), upd_lt (by omega)]
/-- one piece more: it was written (w1 to w2), and appended (w2 to w3) -/
theorem Pcs.push {w w0 w1 w2 w3 : World} {p k t n : Nat} {X : Nat → Nat} {vp : Value} {g cap mf : Nat → Nat} {o1 : Obj} {gg cg g1 c1 : Nat} (S : Pcs w w0 p k t X vp g cap mf) (hb1 : Below w0.heap.size w0 w1)
    (hg0 : w0.heap.size ≤ gg) (hg1 : gg < w1.heap.size) (hrow : ∀ j, j < n → w1.cell? ⟨gg, j, none⟩ = some (.int .u8 (X (t + j)))) (hroom : n ≤ cg)
    (hs : Save p w1 w2) (st2 : St w2 p (t + n) X)
    (hw3 : (w2.alloc o1).grownBy w3 vp.ownBlock) (own3 : w3.ownsRow w.heap.size 24 1 (.slice (some ⟨g1, 0, none⟩) (k + 1) c1) (k + 1) (svals (F1 g cap mf) k ++ [.slice (some ⟨gg, 0, none⟩) n cg])) (hat : vp.ownBlock = some g1 ∨ g1 = (w2.alloc o1).heap.size) (_ : g1 < w3.heap.size) :
    Pcs w w3 p (k + 1) (t + n) X (.slice (some ⟨g1, 0, none⟩) (k + 1) c1) (upd g k gg) (upd cap k cg) (upd mf k n) := by
  have S1 := S.step hb1
  have z1 := hb1.size
  have z2 := hs.size
  have z3 := hw3.size
  rw [World.size_alloc] at z3 hat
  have lo := S.below.size
  have pl := S.st.lt
  have li : ∀ b, vp.ownBlock = some b → b < w0.heap.size := fun b e => (S.own.lt b e).2
  have k12 : ∀ b, b < w1.heap.size → b ≠ p → w2.heap[b]? = w1.heap[b]? := fun b hb hn => hs.block b hb hn
  have k23 : ∀ b, b < w2.heap.size → vp.ownBlock ≠ some b → w3.heap[b]? = w2.heap[b]? := fun b hb hn => by
    rw [hw3.block b (by rw [World.size_alloc]; omega) (fun e => hn e.symm), heap_alloc_old _ _ hb]
  have b23 : Below w.heap.size w2 w3 := ⟨hw3.os, hw3.tape, hw3.output, by omega, fun b hb => k23 b (by omega) (fun e => by have := (S.own.lt b e).1; omega)⟩
  refine ⟨(S1.below.trans (hs.below S.lo (by omega))).trans b23, st2.of_block (k23 p (by omega) S.np), S.lo, ?_, ?_, ?_, ?_, ?_, ?_⟩
  · have e : svals (F1 (upd g k gg) (upd cap k cg) (upd mf k n)) (k + 1) = svals (F1 g cap mf) k ++ [.slice (some ⟨gg, 0, none⟩) n cg] := by
      rw [← svals_succ, svals_congr (G := F1 g cap mf) (fun i hi => by unfold F1; rw [upd_lt hi, upd_lt hi, upd_lt hi])]
      unfold F1
      rw [upd_at, upd_at, upd_at]
    rw [e]
    exact own3
  · intro e
    have h1 : g1 = p := by simpa [Value.ownBlock] using e
    rcases hat with h | h
    · exact S.np (by rw [h, h1])
    · omega
  · intro i hi
    by_cases e : i = k
    · subst e
      rw [upd_at]
      refine ⟨by omega, by omega, fun e => ?_, by omega⟩
      have h1 : g1 = gg := by simpa [Value.ownBlock] using e
      rcases hat with h | h
      · have := li g1 h; omega
      · omega
    · have hi' : i < k := by omega
      rw [upd_lt hi']
      have f := S.far i hi'
      refine ⟨f.1, by omega, fun e => ?_, f.2.2.2⟩
      have h1 : g1 = g i := by simpa [Value.ownBlock] using e
      rcases hat with h | h
      · exact f.2.2.1 (by rw [h, h1])
      · omega
  · intro i hi j hj
    by_cases e : i = k
    · subst e
      rw [upd_at] at hj ⊢
      rw [tot_upd mf i n i (Nat.le_refl _), S.sum, ← hrow j hj]
      refine World.cell?_of_block ?_
      show w3.heap[gg]? = w1.heap[gg]?
      rw [k23 gg (by omega) (fun e => by have := li gg e; omega), k12 gg hg1 (by omega)]
    · have hi' : i < k := by omega
      rw [upd_lt hi'] at hj ⊢
      have f := S.far i hi'
      rw [tot_upd mf k n i (by omega), ← S1.row i hi' j hj]
      refine World.cell?_of_block ?_
      show w3.heap[g i]? = w1.heap[g i]?
      rw [k23 (g i) (by omega) f.2.2.1, k12 (g i) (by omega) f.2.2.2]
  · intro i hi
    by_cases e : i = k
    · subst e
      rw [upd_at, upd_at]
      exact hroom
    · rw [upd_lt (by omega), upd_lt (by omega)]
      exact S.room i (by omega)
  · simp only [tot]
    rw [tot_upd mf k n k (Nat.le_refl _), upd_at, S.sum]
theorem Pcs.parts {w wr : World} {p k t : Nat} {X : Nat → Nat} {vp : Value} {g cap mf : Nat → Nat} (h : Pcs w wr p k t X vp g cap mf) (hX : ∀ i, X i < 256) (ht : t ≤ 1099511627776) :
    ∃ pa pb c, vp = .slice pa k c ∧ Parts wr pa pb 0 k (fun i => some ⟨g i, 0, none⟩) g (fun _ => 0) mf cap (fun i j => X (tot mf i + j)) := by
  have hm : ∀ i, i < k → mf i ≤ t := fun i hi => by have := tot_at mf hi; rw [h.sum] at this; exact this
  have hview : ∀ i, i < k → View wr (some ⟨g i, 0, none⟩) (g i) 0 (mf i) (fun j => (X (tot mf i + j) : Int)) := fun i hi => by
    refine ⟨fun _ => rfl, fun j hj => ?_, fun j hj => ?_, by have := hm i hi; omega⟩
    · rw [Nat.zero_add, h.row i hi j hj]
    · have := hX (tot mf i + j)
      omega
  by_cases h0 : 0 < k
  · obtain ⟨b, c, hv, hc, _, _, hcell⟩ := own_at h.own h0
    exact ⟨_, b, c, hv, fun _ => rfl, fun i hi => by rw [Nat.zero_add]; exact hcell i hi, hview, h.room, fun _ _ => hX _⟩
  · have hk : k = 0 := by omega
    subst hk
    rcases h.own.2 with ⟨h1, _⟩ | ⟨b, c, cur, h1, _⟩
    · exact ⟨none, 0, 0, h1, fun h => absurd h (by omega), fun i hi => absurd hi (by omega), fun i hi => absurd hi (by omega), fun i hi => absurd hi (by omega), fun _ _ => hX _⟩
    · exact ⟨_, b, c, h1, fun h => absurd h (by omega), fun i hi => absurd hi (by omega), fun i hi => absurd hi (by omega), fun i hi => absurd hi (by omega), fun _ _ => hX _⟩
theorem jn_cut (mf : Nat → Nat) (X : Nat → Nat) : ∀ k i, i < tot mf k → jn mf (fun i j => X (tot mf i + j)) k i = X i
  | 0, i, h => by simp [tot] at h
  | k + 1, i, h => by
    simp only [jn]
    unfold cat
    by_cases hi : i < tot mf k
    · rw [if_pos hi, jn_cut mf X k i hi]
    · rw [if_neg hi]
      show X (tot mf k + (i - tot mf k)) = X i
      rw [show tot mf k + (i - tot mf k) = i by omega]
theorem own_some {w : World} {B n : Nat} {v : Value} {xs : List Value} (h : w.ownsRow B 5 1 v n xs) (hn : v ≠ .slice none 0 0) : ∃ g cap, v = .slice (some ⟨g, 0, none⟩) n cap ∧ n ≤ cap ∧ B ≤ g ∧ g < w.heap.size := by
  rcases h.2 with ⟨h0, _⟩ | ⟨g, cap, cur, hv, hB, hg, hc, _⟩
  · exact absurd h0 hn
  · have := h.lt g (by rw [hv]; rfl)
    exact ⟨g, cap, hv, hc, hB, this.2⟩

/-- bytes appended, as one step of a region that draws its order -/
theorem step_append_bytes {w : World} {ops : Array Oper} {o : Oper} {a : Act} {K : Act → World → Prop} {Q : Exit → Act → World → Prop} {E : Prop} (hgd : o.guard = none) (s x : Operand)
    (ho : o.op = .call { callee := .builtin .append, args := #[s, x], argTypes := #[24, 24] }) (base : Nat) (v : Value) (k : Nat) (xs : List Value) (hs : a.eval s = v) (hown : w.ownsRow base 5 1 v k xs)
    (sa : Option Addr) (b off n c : Nat) (Y : Nat → Int) (hx : a.eval x = .slice sa n c) (hv : View w sa b off n Y) (hnil : sa = none → c = 0) (hk : k + n ≤ 140737488355328) (hbase : base ≤ w.heap.size)
    (h : ∀ v' w', w'.ownsRow base 5 1 v' (k + n) (xs ++ vals Y n) → w.grownBy w' v.ownBlock → (v' = .slice none 0 0 → v = .slice none 0 0) → K (a.put o.dst v') w') : if Region.wanted o (yielded ops a.tmps) = true then Oper.wp Tryd.prog o a w K Q else E := by
  have hw : Region.wanted o (yielded ops a.tmps) = true := by simp [Region.wanted, hgd]
  rw [if_pos hw]
  obtain ⟨i0, hi0, hz0, hz1, hz2⟩ := info_parts Tryd.info5
  cases sa with
  | none =>
    have hn : n = 0 := by
      rcases Nat.eq_zero_or_pos n with e | e
      · exact e
      · cases hv.at_ e
    subst hn
    obtain rfl := hnil rfl
    have hrun := run_append_owned_none (P := Tryd.prog) (w := w) base 24 o.type 5 i0 1 Tryd.underlying24 hi0 v k xs hown
    unfold Oper.wp
    simp [execOp, ho, resolve, invoke, builtin, hs, hx, hrun, Result.andThen]
    refine h v w ?_ ⟨rfl, rfl, rfl, Nat.le_refl _, fun _ _ _ => rfl⟩ id
    simpa [vals] using hown
  | some p =>
    refine wp_append_own _ s x 24 ho base 5 i0 (.int .u8 0) 1 1 Tryd.underlying24 hi0 hz0 hz1 hz2 rfl (by decide) v k xs hs hown p n c (vals Y n) hx (by simp [vals]) ?_ vals_one (by unfold maxLen; omega) (by omega) hbase (fun v' w' h1 h2 h3 => h v' w' h1 h2 (fun e => (h3.1 e).1))
    intro j u hu
    obtain ⟨hj, rfl⟩ := vals_cell hu
    have hp : p = ⟨b, off, none⟩ := Option.some.inj (hv.at_ (by omega))
    subst hp
    rw [Go.WideShapes.add_plain]
    exact hv.cell j hj
end Go.Proofs.YtdhenfepfkmhhaaDoor
