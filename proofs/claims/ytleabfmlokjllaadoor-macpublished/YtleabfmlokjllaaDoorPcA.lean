/-
  Codes of one, two and four parts; MacPieces: what its loop keeps.
-/
import Derived.Test.YtleabfmlokjllaaDoorKnB
import Derived.Test.YtleabfmlokjllaaDoorSl
namespace Go.Proofs.YtleabfmlokjllaaDoor
open Go.RowKit

theorem hmac_same {B : Nat → Nat} {m : Nat} {X Y : Nat → Nat} (h : ∀ i, i < m → X i = Y i) : hmac B m X = hmac B m Y := by
  unfold hmac
  rw [digest_congr (n := 64 + m) (X := cat 64 (msk 54 B) X) (Y := cat 64 (msk 54 B) Y) (fun i hi => by
    unfold cat
    by_cases e : i < 64
    · rw [if_pos e, if_pos e]
    · rw [if_neg e, if_neg e, h _ (by omega)])]

theorem mcode_one (w : World) (Sa : Option Addr) (sb so n sc : Nat) (S : Nat → Nat) (hv : View w Sa sb so n (fun i => (S i : Int))) (hsc : n ≤ sc) (hS : ∀ i, S i < 256) (A : Option Addr) (b off m c t cap : Nat) (Y : Nat → Nat) (h : View w A b off m (fun i => (Y i : Int))) (hc : m ≤ c) (hY : ∀ i, Y i < 256) (hG : Ground w) :
    Calls Tryd.prog 9 #[.slice Sa n sc, .slice (some ⟨w.heap.size, 0, none⟩) 1 cap] (w.alloc (.cells #[.slice A m c] t)) fun e w' => e = .returned (.agg (hashA (hmac (blk n S) m Y))) ∧ Below w.heap.size w w' := by
  have bA : Below w.heap.size w (w.alloc (.cells #[.slice A m c] t)) := (Below.refl _ _).alloc (Nat.le_refl _) _
  have h := mcodes_any _ Sa sb so n sc S (hv.below bA) hsc hS _ _ _ 1 cap _ _ _ _ _ _ (parts_one h hc hY t) (hG.below bA) (by omega) (by rw [tot_one]; have := h.len; omega)
  rw [tot_one, hmac_same (Y := Y) (fun i _ => by simp [jn, cat, tot])] at h
  exact h.mono fun e w' ⟨he, hb⟩ => ⟨he, ch bA hb⟩
theorem mcode_two (w : World) (Sa : Option Addr) (sb so n sc : Nat) (S : Nat → Nat) (hv : View w Sa sb so n (fun i => (S i : Int))) (hsc : n ≤ sc) (hS : ∀ i, S i < 256) (A0 A1 : Option Addr) (b0 o0 m0 c0 b1 o1 m1 c1 t cap : Nat) (Y0 Y1 : Nat → Nat) (h0 : View w A0 b0 o0 m0 (fun i => (Y0 i : Int))) (h1 : View w A1 b1 o1 m1 (fun i => (Y1 i : Int))) (k0 : m0 ≤ c0) (k1 : m1 ≤ c1) (hY0 : ∀ i, Y0 i < 256) (hY1 : ∀ i, Y1 i < 256) (hG : Ground w) :
    Calls Tryd.prog 9 #[.slice Sa n sc, .slice (some ⟨w.heap.size, 0, none⟩) 2 cap] (w.alloc (.cells #[.slice A0 m0 c0, .slice A1 m1 c1] t)) fun e w' => e = .returned (.agg (hashA (hmac (blk n S) (m0 + m1) (cat m0 Y0 Y1)))) ∧ Below w.heap.size w w' := by
  have bA : Below w.heap.size w (w.alloc (.cells #[.slice A0 m0 c0, .slice A1 m1 c1] t)) := (Below.refl _ _).alloc (Nat.le_refl _) _
  have e : tot (fun i => if i = 0 then m0 else m1) 2 = m0 + m1 := by simp [tot]
  have h := mcodes_any _ Sa sb so n sc S (hv.below bA) hsc hS _ _ _ 2 cap _ _ _ _ _ _ (parts_two h0 h1 k0 k1 hY0 hY1 t) (hG.below bA) (by omega) (by rw [e]; have := h0.len; have := h1.len; omega)
  rw [e, hmac_same (Y := cat m0 Y0 Y1) (fun i _ => by simp [jn, cat, tot])] at h
  exact h.mono fun e w' ⟨he, hb⟩ => ⟨he, ch bA hb⟩

/-- two lists, with nothing between them and an empty one behind -/
theorem parts_four {w : World} {A0 A1 : Option Addr} {g b0 o0 m0 c0 b1 o1 m1 c1 : Nat} {Y0 Y1 : Nat → Nat} (h0 : View w A0 b0 o0 m0 (fun i => (Y0 i : Int))) (h1 : View w A1 b1 o1 m1 (fun i => (Y1 i : Int))) (k0 : m0 ≤ c0) (k1 : m1 ≤ c1) (hY0 : ∀ i, Y0 i < 256) (hY1 : ∀ i, Y1 i < 256) (t : TypeId) :
    Parts (w.alloc (.cells #[.slice A0 m0 c0, .slice none 0 0, .slice A1 m1 c1, .slice (some ⟨g, 0, none⟩) 0 0] t)) (some ⟨w.heap.size, 0, none⟩) w.heap.size 0 4 (fun i => if i = 0 then A0 else if i = 1 then none else if i = 2 then A1 else some ⟨g, 0, none⟩) (fun i => if i = 0 then b0 else b1) (fun i => if i = 0 then o0 else o1) (fun i => if i = 0 then m0 else if i = 2 then m1 else 0) (fun i => if i = 0 then c0 else if i = 2 then c1 else 0) (fun i => if i = 0 then Y0 else Y1) := by
  have hb : Below w.heap.size w (w.alloc (.cells #[.slice A0 m0 c0, .slice none 0 0, .slice A1 m1 c1, .slice (some ⟨g, 0, none⟩) 0 0] t)) := (Below.refl _ _).alloc (Nat.le_refl _) _
  refine ⟨fun _ => rfl, fun i hi => ?_, fun i hi => ?_, fun i hi => ?_, fun i j => ?_⟩
  · rw [cell_of_row _ _ _ _ t _ (heap_alloc_new w _)]
    match i, hi with
    | 0, _ => rfl
    | 1, _ => rfl
    | 2, _ => rfl
    | 3, _ => rfl
  · match i, hi with
    | 0, _ => exact h0.below hb
    | 1, _ => exact view_empty _ _ _ _ _ _ rfl
    | 2, _ => exact h1.below hb
    | 3, _ => exact view_empty _ _ _ _ _ _ rfl
  · match i, hi with
    | 0, _ => exact k0
    | 1, _ => exact Nat.le_refl _
    | 2, _ => exact k1
    | 3, _ => exact Nat.le_refl _
  · by_cases e : i = 0
    · simp only [if_pos e]
      exact hY0 j
    · simp only [if_neg e]
      exact hY1 j
theorem mcode_four (w : World) (Sa : Option Addr) (sb so n sc : Nat) (S : Nat → Nat) (hv : View w Sa sb so n (fun i => (S i : Int))) (hsc : n ≤ sc) (hS : ∀ i, S i < 256) (A0 A1 : Option Addr) (g b0 o0 m0 c0 b1 o1 m1 c1 t cap : Nat) (Y0 Y1 : Nat → Nat) (h0 : View w A0 b0 o0 m0 (fun i => (Y0 i : Int))) (h1 : View w A1 b1 o1 m1 (fun i => (Y1 i : Int))) (k0 : m0 ≤ c0) (k1 : m1 ≤ c1) (hY0 : ∀ i, Y0 i < 256) (hY1 : ∀ i, Y1 i < 256) (hG : Ground w) :
    Calls Tryd.prog 9 #[.slice Sa n sc, .slice (some ⟨w.heap.size, 0, none⟩) 4 cap] (w.alloc (.cells #[.slice A0 m0 c0, .slice none 0 0, .slice A1 m1 c1, .slice (some ⟨g, 0, none⟩) 0 0] t)) fun e w' => e = .returned (.agg (hashA (hmac (blk n S) (m0 + m1) (cat m0 Y0 Y1)))) ∧ Below w.heap.size w w' := by
  have bA : Below w.heap.size w (w.alloc (.cells #[.slice A0 m0 c0, .slice none 0 0, .slice A1 m1 c1, .slice (some ⟨g, 0, none⟩) 0 0] t)) := (Below.refl _ _).alloc (Nat.le_refl _) _
  have e : tot (fun i => if i = 0 then m0 else if i = 2 then m1 else 0) 4 = m0 + m1 := by simp [tot]
  have h := mcodes_any _ Sa sb so n sc S (hv.below bA) hsc hS _ _ _ 4 cap _ _ _ _ _ _ (parts_four (g := g) h0 h1 k0 k1 hY0 hY1 t) (hG.below bA) (by omega) (by rw [e]; have := h0.len; have := h1.len; omega)
  rw [e, hmac_same (Y := cat m0 Y0 Y1) (fun i hi => by
    simp only [jn, cat, tot]
    have q : i < m0 + m1 := hi
    by_cases l : i < m0
    · simp [l, q]
    · simp [l, q])] at h
  exact h.mono fun e w' ⟨he, hb⟩ => ⟨he, ch bA hb⟩

/-- the code of what was written, and all that was written -/
structure Pc (w wr : World) (p : Nat) (B : Nat → Nat) (t : Nat) (X : Nat → Nat) (v : Value) : Prop where
  below : Below w.heap.size w wr
  kd : Kd wr p B t X
  lo : w.heap.size ≤ p
  own : wr.ownsRow w.heap.size 5 1 v t (vals (fun i => (X i : Int)) t)
theorem kd_own {w : World} {p : Nat} {B : Nat → Nat} {t : Nat} {X : Nat → Nat} {b n : Nat} {v : Value} {xs : List Value} (h : Kd w p B t X) (o : w.ownsRow b 5 1 v n xs) : v.ownBlock ≠ some p := by
  intro e
  rcases o.2 with ⟨rfl, _⟩ | ⟨g, cap, cur, rfl, _, hg, _⟩
  · cases e
  · have e1 : g = p := by simpa [Value.ownBlock] using e
    obtain ⟨R, ⟨cs, hp, _⟩, _⟩ := h.st.ex
    rw [e1, hp] at hg
    have := Option.some.inj hg
    injection this with _ h2 _
    cases h2
theorem own_at_block {w w' : World} {b n : Nat} {v : Value} {xs : List Value} (o : w.ownsRow b 5 1 v n xs) (hb : ∀ k, v.ownBlock = some k → w'.heap[k]? = w.heap[k]?) : w'.ownsRow b 5 1 v n xs := by
  refine ⟨o.1, ?_⟩
  rcases o.2 with h0 | ⟨g, cap, cur, rfl, h1, hg, h2⟩
  · exact Or.inl h0
  · exact Or.inr ⟨g, cap, cur, rfl, h1, (hb g rfl).trans hg, h2⟩
theorem Pc.step {w wr w' : World} {p : Nat} {B : Nat → Nat} {t : Nat} {X : Nat → Nat} {v : Value} (h : Pc w wr p B t X v) (hb : Below wr.heap.size wr w') : Pc w w' p B t X v :=
  ⟨h.below.trans (hb.mono h.below.size), h.kd.below hb, h.lo, own_at_block h.own (fun k e => hb.block k (h.own.lt k e).2)⟩
/-- something new is written to -/
theorem Pc.other {w wr w' : World} {p q : Nat} {B : Nat → Nat} {t : Nat} {X : Nat → Nat} {v : Value} (h : Pc w wr p B t X v) (hs : Save q wr w') (hq : w.heap.size ≤ q) (hqp : p ≠ q) (hqo : v.ownBlock ≠ some q) : Pc w w' p B t X v :=
  ⟨h.below.trans (hs.below hq h.below.size), h.kd.save hs hqp, h.lo, own_at_block h.own (fun k e => hs.block k (h.own.lt k e).2 (fun e2 => hqo (by rw [e, e2])))⟩
theorem Pc.view {w wr : World} {p : Nat} {B : Nat → Nat} {t : Nat} {X : Nat → Nat} {v : Value} (h : Pc w wr p B t X v) (ht : t ≤ 281474976710656) : ∃ a g c, v = .slice a t c ∧ View wr a g 0 t (fun i => (X i : Int)) ∧ t ≤ c ∧ (a = none → c = 0) ∧ (0 < t → w.heap.size ≤ g) := by
  rcases h.own.2 with ⟨h1, h0⟩ | ⟨g, cap, cur, h1, hlt, hcs⟩
  · subst h0
    exact ⟨none, 0, 0, h1, view_empty _ _ _ _ _ _ rfl, by omega, fun _ => rfl, fun h => absurd h (by omega)⟩
  · subst h1
    refine ⟨some ⟨g, 0, none⟩, g, cap, rfl, ⟨fun _ => rfl, fun i hi => ?_, fun i _ => by have := h.kd.bx i; omega, ht⟩, hcs.2.1, (fun h => by cases h), fun _ => hlt⟩
    rw [Nat.zero_add, h.own.cellAt i (by omega)]
    simp [vals, hi]
theorem vals_cat2 (n m : Nat) (X Y : Nat → Nat) : vals (fun i => (X i : Int)) n ++ vals (fun i => (Y i : Int)) m = vals (fun i => ((cat n X Y i : Nat) : Int)) (n + m) := by
  rw [← vals_app (fun i => ((cat n X Y i : Nat) : Int)) n m (fun i => (Y i : Int)) (fun i _ => by unfold cat; rw [if_neg (by omega), show n + i - n = i by omega])]
  congr 1
  exact vals_congr (fun i hi => by unfold cat; rw [if_pos hi])
theorem wp_append_bytes {w : World} {o : Oper} {a : Act} {K : Act → World → Prop} {Q : Exit → Act → World → Prop} (s x : Operand)
    (ho : o.op = .call { callee := .builtin .append, args := #[s, x], argTypes := #[22, 22] }) (base : Nat) (v : Value) (k : Nat) (xs : List Value) (hs : a.eval s = v) (hown : w.ownsRow base 5 1 v k xs)
    (sa : Option Addr) (b off n c : Nat) (Y : Nat → Int) (hx : a.eval x = .slice sa n c) (hv : View w sa b off n Y) (hnil : sa = none → c = 0) (hk : k + n ≤ 140737488355328) (hbase : base ≤ w.heap.size)
    (h : ∀ v' w', w'.ownsRow base 5 1 v' (k + n) (xs ++ vals Y n) → w.grownBy w' v.ownBlock → (v' = .slice none 0 0 → v = .slice none 0 0) → K (a.put o.dst v') w') : Oper.wp Tryd.prog o a w K Q := by
  obtain ⟨i0, hi0, hz0, hz1, hz2⟩ := info_parts Tryd.info5
  cases sa with
  | none =>
    have hn : n = 0 := by
      rcases Nat.eq_zero_or_pos n with e | e
      · exact e
      · cases hv.at_ e
    subst hn
    obtain rfl := hnil rfl
    have hrun := run_append_owned_none (P := Tryd.prog) (w := w) base 22 o.type 5 i0 1 Tryd.underlying22 hi0 v k xs hown
    unfold Oper.wp
    simp [execOp, ho, resolve, invoke, builtin, hs, hx, hrun, Result.andThen]
    refine h v w ?_ ⟨rfl, rfl, rfl, Nat.le_refl _, fun _ _ _ => rfl⟩ id
    simpa [vals] using hown
  | some p =>
    refine wp_append_own _ s x 22 ho base 5 i0 (.int .u8 0) 1 1 Tryd.underlying22 hi0 hz0 hz1 hz2 rfl (by decide) v k xs hs hown p n c (vals Y n) hx (by simp [vals]) ?_ vals_one (by unfold maxLen; omega) (by omega) hbase (fun v' w' h1 h2 h3 => h v' w' h1 h2 (fun e => (h3.1 e).1))
    intro j u hu
    obtain ⟨hj, rfl⟩ := vals_cell hu
    have hp : p = ⟨b, off, none⟩ := Option.some.inj (hv.at_ (by omega))
    subst hp
    rw [Go.WideShapes.add_plain]
    exact hv.cell j hj
theorem wpList_append_bytes_g {w : World} {ops : Array Oper} {rest : List Oper} {o : Oper} {a : Act} {Q : Exit → Act → World → Prop} (hgd : Region.wanted o (yielded ops a.tmps) = true) (s x : Operand)
    (ho : o.op = .call { callee := .builtin .append, args := #[s, x], argTypes := #[22, 22] }) (base : Nat) (v : Value) (k : Nat) (xs : List Value) (hs : a.eval s = v) (hown : w.ownsRow base 5 1 v k xs)
    (sa : Option Addr) (b off n c : Nat) (Y : Nat → Int) (hx : a.eval x = .slice sa n c) (hv : View w sa b off n Y) (hnil : sa = none → c = 0) (hk : k + n ≤ 140737488355328) (hbase : base ≤ w.heap.size)
    (h : ∀ v' w', w'.ownsRow base 5 1 v' (k + n) (xs ++ vals Y n) → w.grownBy w' v.ownBlock → (v' = .slice none 0 0 → v = .slice none 0 0) → wpList Tryd.prog ops Q rest (a.put o.dst v') w') : wpList Tryd.prog ops Q (o :: rest) a w :=
  Go.BigFrame.wpList_want hgd fun _ hK => wp_append_bytes s x ho base v k xs hs hown sa b off n c Y hx hv hnil hk hbase (fun v' w' h1 h2 h3 => hK _ _ (h v' w' h1 h2 h3))
end Go.Proofs.YtleabfmlokjllaaDoor
