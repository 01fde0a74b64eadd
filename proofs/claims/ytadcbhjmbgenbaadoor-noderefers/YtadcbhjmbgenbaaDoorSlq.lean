import Derived.Test.YtadcbhjmbgenbaaDoorRestq
import Derived.Test.YtadcbhjmbgenbaaDoorAppq
/-
  Lists cut, and bytes appended in a region that draws its order.
-/
namespace Go.Proofs.YtadcbhjmbgenbaaDoor
open Go.RowKit

theorem elem24 : Tryd.prog.elem 22 = 5 := by kernel_rfl
theorem size5 (w : World) : (sizeOf 5).run Tryd.prog w = .ok 1 w := by
  have := info5size
  cases hq : Tryd.prog.info? 5 with
  | none => simp [hq] at this
  | some i => simp [hq] at this; simp [sizeOf, typeInfo, hq, this]
theorem slice_upto (a : Option Addr) (n c K : Nat) (h : K ≤ c) (w : World) : (Instr.slice 22 (.slice a n c) none (some (.int .i64 K)) none).run Tryd.prog w = .ok (.slice a K c) w := by
  rw [run_slice_h w 22 a n c (by rw [elem24]; exact Tryd.underlying22) .i64 K (by omega) (by omega), elem24, size5]
  simp only [Result.andThen, sliced]
  congr 1
  cases a <;> simp [Addr.add]
theorem sliceAt_upto (a : Option Addr) (n c K : Nat) (h : K ≤ c) (w : World) : (Instr.sliceAt 22 (.slice a n c) none (some (.int .i64 K)) none).run Tryd.prog w = .ok (.slice a K c) w := by
  rw [run_sliceAt_slice w 22 _ _ _ _ (by rw [elem24]; exact Tryd.underlying22), slice_upto a n c K h w]
/-- where a list begins behind its first K -/
def behind (a : Option Addr) (c K : Nat) : Option Addr := if c = K then a else a.map (·.add K)
theorem slice_from (a : Option Addr) (n c K : Nat) (h : K ≤ n) (w : World) : (Instr.slice 22 (.slice a n c) (some (.int .i64 K)) none none).run Tryd.prog w = .ok (.slice (behind a c K) (n - K) (c - K)) w := by
  rw [run_slice_l w 22 a n c (by rw [elem24]; exact Tryd.underlying22) .i64 K (by omega) (by omega), elem24, size5]
  simp only [Result.andThen, sliced, behind]
  simp
theorem sliceAt_from (a : Option Addr) (n c K : Nat) (h : K ≤ n) (w : World) : (Instr.sliceAt 22 (.slice a n c) (some (.int .i64 K)) none none).run Tryd.prog w = .ok (.slice (behind a c K) (n - K) (c - K)) w := by
  rw [run_sliceAt_slice w 22 _ _ _ _ (by rw [elem24]; exact Tryd.underlying22), slice_from a n c K h w]

/-- what is left of the bytes behind t of them -/
structure Left (w : World) (a : Option Addr) (b o N t c : Nat) (X : Nat → Nat) : Prop where
  view : View w a b (o + t) (N - t) (fun i => (X (t + i) : Int))
  cap : N - t ≤ c
  nil : a = none → c = 0
theorem Left.behind {w : World} {a : Option Addr} {b o N t c : Nat} {X : Nat → Nat} (h : Left w a b o N t c X) (n : Nat) (hn : n ≤ N - t) : Left w (behind a c n) b o N (t + n) (c - n) X := by
  have l := h.view.len
  have cp := h.cap
  refine ⟨⟨fun h0 => ?_, fun i hi => ?_, fun i hi => ?_, by omega⟩, by omega, fun e => ?_⟩
  · have ha := h.view.at_ (by omega)
    unfold Go.Proofs.YtadcbhjmbgenbaaDoor.behind
    rw [if_neg (by omega), ha]
    simp only [Option.map_some, Option.some.injEq]
    rw [Go.WideShapes.add_plain]
    congr 1
    omega
  · have c1 := h.view.cell (n + i) (by omega)
    rw [show o + t + (n + i) = o + (t + n) + i by omega, show t + (n + i) = t + n + i by omega] at c1
    exact c1
  · have c1 := h.view.bd (n + i) (by omega)
    rw [show t + (n + i) = t + n + i by omega] at c1
    exact c1
  · unfold Go.Proofs.YtadcbhjmbgenbaaDoor.behind at e
    split at e
    · have := h.nil e; omega
    · have : a = none := by cases a with | none => rfl | some x => cases e
      have := h.nil this
      omega
theorem Left.below {w w' : World} {a : Option Addr} {b o N t c : Nat} {X : Nat → Nat} (h : Left w a b o N t c X) (hb : Below w.heap.size w w') : Left w' a b o N t c X := ⟨h.view.below hb, h.cap, h.nil⟩

theorem jn_cut (mf : Nat → Nat) (X : Nat → Nat) : ∀ k i, i < tot mf k → jn mf (fun i j => X (tot mf i + j)) k i = X i
  | 0, i, h => by simp [tot] at h
  | k + 1, i, h => by
    simp only [jn]
    unfold cat
    by_cases hi : i < tot mf k
    · rw [if_pos hi, jn_cut mf X k i hi]
    · rw [if_neg hi]
      show X (tot mf k + (i - tot mf k)) = X i
      rw [show tot mf k + (i - tot mf k) = i by omega]
theorem own_some {w : World} {B n : Nat} {v : Value} {xs : List Value} (h : w.ownsRow B 5 1 v n xs) (hn : v ≠ .slice none 0 0) : ∃ g cap, v = .slice (some ⟨g, 0, none⟩) n cap ∧ n ≤ cap ∧ B ≤ g ∧ g < w.heap.size := by
  rcases h.2 with ⟨h0, _⟩ | ⟨g, cap, cur, hv, hB, hg, hc, _⟩
  · exact absurd h0 hn
  · have := h.lt g (by rw [hv]; rfl)
    exact ⟨g, cap, hv, hc, hB, this.2⟩

/-- bytes appended, as one step of a region that draws its order -/
theorem step_append_bytes {w : World} {ops : Array Oper} {o : Oper} {a : Act} {K : Act → World → Prop} {Q : Exit → Act → World → Prop} {E : Prop} (hgd : o.guard = none) (s x : Operand)
    (ho : o.op = .call { callee := .builtin .append, args := #[s, x], argTypes := #[22, 22] }) (base : Nat) (v : Value) (k : Nat) (xs : List Value) (hs : a.eval s = v) (hown : w.ownsRow base 5 1 v k xs)
    (sa : Option Addr) (b off n c : Nat) (Y : Nat → Int) (hx : a.eval x = .slice sa n c) (hv : View w sa b off n Y) (hnil : sa = none → c = 0) (hk : k + n ≤ 140737488355328) (hbase : base ≤ w.heap.size)
    (h : ∀ v' w', w'.ownsRow base 5 1 v' (k + n) (xs ++ vals Y n) → w.grownBy w' v.ownBlock → (v' = .slice none 0 0 → v = .slice none 0 0) → K (a.put o.dst v') w') : if Region.wanted o (yielded ops a.tmps) = true then Oper.wp Tryd.prog o a w K Q else E := by
  have hw : Region.wanted o (yielded ops a.tmps) = true := by simp [Region.wanted, hgd]
  rw [if_pos hw]
  obtain ⟨i0, hi0, hz0, hz1, hz2⟩ := info_parts Tryd.info5
  cases sa with
  | none =>
    have hn : n = 0 := by
      rcases Nat.eq_zero_or_pos n with e | e
      · exact e
      · cases hv.at_ e
    subst hn
    obtain rfl := hnil rfl
    have hrun := run_append_owned_none (P := Tryd.prog) (w := w) base 22 o.type 5 i0 1 Tryd.underlying22 hi0 v k xs hown
    unfold Oper.wp
    simp [execOp, ho, resolve, invoke, builtin, hs, hx, hrun, Result.andThen]
    refine h v w ?_ ⟨rfl, rfl, rfl, Nat.le_refl _, fun _ _ _ => rfl⟩ id
    simpa [vals] using hown
  | some p =>
    refine wp_append_own _ s x 22 ho base 5 i0 (.int .u8 0) 1 1 Tryd.underlying22 hi0 hz0 hz1 hz2 rfl (by decide) v k xs hs hown p n c (vals Y n) hx (by simp [vals]) ?_ vals_one (by unfold maxLen; omega) (by omega) hbase (fun v' w' h1 h2 h3 => h v' w' h1 h2 (fun e => (h3.1 e).1))
    intro j u hu
    obtain ⟨hj, rfl⟩ := vals_cell hu
    have hp : p = ⟨b, off, none⟩ := Option.some.inj (hv.at_ (by omega))
    subst hp
    rw [Go.WideShapes.add_plain]
    exact hv.cell j hj
end Go.Proofs.YtadcbhjmbgenbaaDoor
