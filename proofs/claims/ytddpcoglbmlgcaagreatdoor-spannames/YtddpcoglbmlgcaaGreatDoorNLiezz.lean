import Derived.Test.YtddpcoglbmlgcaaGreatDoorNLfczz
/-
  How an item lies in memory.
-/
namespace Go.Proofs.YtddpcoglbmlgcaaGreatDoor
open Go.RowKit
/-- what may be asked of bytes in memory -/
class Rel (R : World → Value → List Nat → Prop) : Prop where
  keep : ∀ {w w' : World} {v : Value} {s : List Nat}, R w v s → Below w.heap.size w w' → R w' v s
  form : ∀ {w : World} {v : Value} {s : List Nat}, R w v s → ∃ a c, v = .slice a s.length c
/-- THE VALUE v IS A LIST OF THE BYTES s. -/
def Vb (w : World) (v : Value) (s : List Nat) : Prop := ∃ a b off c, v = .slice a s.length c ∧ Vw w a b off s ∧ s.length ≤ c ∧ (a = none → c = 0) ∧ s.length ≤ 140737488351232
instance : Rel Vb where
  keep := fun h k => by
    obtain ⟨a, b, off, c, rfl, hv, r⟩ := h
    exact ⟨a, b, off, c, rfl, hv.below k, r⟩
  form := fun h => by
    obtain ⟨a, b, off, c, rfl, hv, r⟩ := h
    exact ⟨a, c, rfl⟩
/-- AN ITEM IN MEMORY: vb its bytes, vi its items; R: what is asked of the bytes. -/
inductive Lies (R : World → Value → List Nat → Prop) (w : World) : It → Value → Value → Prop
  | mk {l : Bool} {b : List Nat} {xs : List It} {vb : Value} (a : Option Addr) (blk off c : Nat) (f g : Nat → Value) (hb : R w vb b) (ha : 0 < xs.length → a = some ⟨blk, off, none⟩) (hn : 56 * xs.length ≤ 140737488351232)
      (hc : ∀ i x, xs[i]? = some x → w.cell? ⟨blk, off + i * 3, none⟩ = some (.bool x.l) ∧ w.cell? ⟨blk, off + i * 3 + 1, none⟩ = some (f i) ∧ w.cell? ⟨blk, off + i * 3 + 2, none⟩ = some (g i))
      (hr : ∀ i x, xs[i]? = some x → Lies R w x (f i) (g i)) : Lies R w (.mk l b xs) vb (.slice a xs.length c)
theorem Lies.imp {R R' : World → Value → List Nat → Prop} {w w' : World} (hR : ∀ v s, R w v s → R' w' v s) (hc : ∀ p : Addr, p.block < w.heap.size → w'.cell? p = w.cell? p) : ∀ {x : It} {vb vi : Value}, Lies R w x vb vi → Lies R' w' x vb vi := by
  intro x vb vi h
  induction h with
  | mk a blk off c f g hb ha hn hcc hr ih =>
    refine .mk a blk off c f g (hR _ _ hb) ha hn (fun i x hx => ?_) (fun i x hx => ih i x hx)
    obtain ⟨h1, h2, h3⟩ := hcc i x hx
    have hl : blk < w.heap.size := World.block_lt_of_cell? _ _ h1
    exact ⟨(hc _ hl).trans h1, (hc _ hl).trans h2, (hc _ hl).trans h3⟩
theorem Lies.keep {R : World → Value → List Nat → Prop} [Rel R] {w w' : World} {x : It} {vb vi : Value} (h : Lies R w x vb vi) (k : Below w.heap.size w w') : Lies R w' x vb vi := h.imp (fun _ _ q => Rel.keep q k) (fun _ hp => k.cell hp)
theorem Lies.form {R : World → Value → List Nat → Prop} [Rel R] {w : World} {x : It} {vb vi : Value} (h : Lies R w x vb vi) : ∃ a n c a' n' c', vb = .slice a n c ∧ vi = .slice a' n' c' := by
  cases h with
  | mk a blk off c f g hb ha hn hc hr =>
    obtain ⟨a', c', e⟩ := Rel.form hb
    exact ⟨_, _, _, _, _, _, e, rfl⟩
/-- an item's value -/
abbrev iv (l : Bool) (vb vi : Value) : Value := .agg #[.bool l, vb, vi]
/-- its items -/
structure Its (R : World → Value → List Nat → Prop) (w : World) (xs : List It) (a : Option Addr) (blk off : Nat) : Prop where
  ha : 0 < xs.length → a = some ⟨blk, off, none⟩
  hn : 56 * xs.length ≤ 140737488351232
  get : ∀ i x, xs[i]? = some x → ∃ a1 n1 k1 a2 n2 k2, w.cell? ⟨blk, off + i * 3, none⟩ = some (.bool x.l) ∧ w.cell? ⟨blk, off + i * 3 + 1, none⟩ = some (.slice a1 n1 k1) ∧ w.cell? ⟨blk, off + i * 3 + 2, none⟩ = some (.slice a2 n2 k2) ∧ Lies R w x (.slice a1 n1 k1) (.slice a2 n2 k2)
theorem Lies.opened {R : World → Value → List Nat → Prop} [Rel R] {w : World} {l : Bool} {b : List Nat} {xs : List It} {vb vi : Value} (h : Lies R w (.mk l b xs) vb vi) : ∃ a' c' a c blk off, vb = .slice a' b.length c' ∧ vi = .slice a xs.length c ∧ R w vb b ∧ Its R w xs a blk off := by
  cases h with
  | mk a blk off c f g hb ha hn hc hr =>
    obtain ⟨a', c', e⟩ := Rel.form hb
    refine ⟨a', c', a, c, blk, off, e, rfl, hb, ha, hn, fun i x hx => ?_⟩
    obtain ⟨h1, h2, h3⟩ := hc i x hx
    obtain ⟨a1, n1, k1, a2, n2, k2, e1, e2⟩ := (hr i x hx).form
    refine ⟨a1, n1, k1, a2, n2, k2, h1, h2.trans (by rw [e1]), h3.trans (by rw [e2]), ?_⟩
    rw [← e1, ← e2]
    exact hr i x hx
theorem Its.shut {R : World → Value → List Nat → Prop} {w : World} {l : Bool} {b : List Nat} {xs : List It} {vb : Value} {a : Option Addr} {blk off c : Nat} (h : Its R w xs a blk off) (hb : R w vb b) : Lies R w (.mk l b xs) vb (.slice a xs.length c) := by
  have : ∀ i, ∃ q : Value × Value, ∀ x, xs[i]? = some x → w.cell? ⟨blk, off + i * 3, none⟩ = some (.bool x.l) ∧ w.cell? ⟨blk, off + i * 3 + 1, none⟩ = some q.1 ∧ w.cell? ⟨blk, off + i * 3 + 2, none⟩ = some q.2 ∧ Lies R w x q.1 q.2 := fun i => by
    cases hx : xs[i]? with
    | none => exact ⟨(.bool true, .bool true), fun x e => by cases e⟩
    | some y =>
      obtain ⟨a1, n1, k1, a2, n2, k2, h1, h2, h3, h4⟩ := h.get i y hx
      exact ⟨(.slice a1 n1 k1, .slice a2 n2 k2), fun x e => by cases e; exact ⟨h1, h2, h3, h4⟩⟩
  have hp := fun i => (this i).choose_spec
  exact .mk a blk off c (fun i => (this i).choose.1) (fun i => (this i).choose.2) hb h.ha h.hn (fun i x hx => ⟨(hp i x hx).1, (hp i x hx).2.1, (hp i x hx).2.2.1⟩) (fun i x hx => (hp i x hx).2.2.2)
theorem Its.keep {R : World → Value → List Nat → Prop} [Rel R] {w w' : World} {xs : List It} {a : Option Addr} {blk off : Nat} (h : Its R w xs a blk off) (k : Below w.heap.size w w') : Its R w' xs a blk off :=
  ⟨h.ha, h.hn, fun i x hx => by
    obtain ⟨a1, n1, k1, a2, n2, k2, h1, h2, h3, h4⟩ := h.get i x hx
    have hl : blk < w.heap.size := World.block_lt_of_cell? _ _ h1
    exact ⟨a1, n1, k1, a2, n2, k2, (k.cell hl).trans h1, (k.cell hl).trans h2, (k.cell hl).trans h3, h4.keep k⟩⟩
/-- the i-th of them, in a later world -/
theorem Its.nth {R : World → Value → List Nat → Prop} [Rel R] {w w' : World} {xs : List It} {a : Option Addr} {blk off : Nat} (h : Its R w xs a blk off) (k : Below w.heap.size w w') {i : Nat} (hi : i < xs.length) :
    a = some ⟨blk, off, none⟩ ∧ ∃ x a1 n1 k1 a2 n2 k2, xs[i]? = some x ∧ x ∈ xs ∧ w'.cell? ⟨blk, off + i * 3, none⟩ = some (.bool x.l) ∧ w'.cell? ⟨blk, off + i * 3 + 1, none⟩ = some (.slice a1 n1 k1) ∧ w'.cell? ⟨blk, off + i * 3 + 2, none⟩ = some (.slice a2 n2 k2) ∧ Lies R w' x (.slice a1 n1 k1) (.slice a2 n2 k2) := by
  obtain ⟨a1, n1, k1, a2, n2, k2, h1, h2, h3, h4⟩ := (h.keep k).get i _ (List.getElem?_eq_getElem hi)
  exact ⟨h.ha (by omega), _, a1, n1, k1, a2, n2, k2, List.getElem?_eq_getElem hi, List.getElem_mem hi, h1, h2, h3, h4⟩
theorem below_alloc (w : World) (o : Obj) : Below w.heap.size w (w.alloc o) := (Below.refl _ _).alloc (Nat.le_refl _) _
theorem box_keep {w w' : World} {l : Bool} {u v : Value} {t : TypeId} (h : Below (w.alloc (.cells #[.bool l, u, v] t)).heap.size (w.alloc (.cells #[.bool l, u, v] t)) w') :
    w'.cell? ⟨w.heap.size, 0, none⟩ = some (.bool l) ∧ w'.cell? ⟨w.heap.size, 1, none⟩ = some u ∧ w'.cell? ⟨w.heap.size, 2, none⟩ = some v := by
  have q : ∀ j, w'.cell? ⟨w.heap.size, j, none⟩ = #[.bool l, u, v][j]? := fun j => by
    rw [h.cell (p := ⟨w.heap.size, j, none⟩) (by simp), cell_of_row _ _ _ _ _ _ (heap_alloc_new w _)]
  exact ⟨q 0, q 1, q 2⟩
set_option maxRecDepth 100000 in
set_option maxHeartbeats 1600000 in
theorem deeper_any : ∀ (x : It) (w : World) (vb vi : Value) (m : Nat), Lies Vb w x vb vi → m ≤ 80 →
    Calls Tryz.prog 86 #[iv x.l vb vi, .int .i64 m] w fun e w' => e = .returned (.bool (decide (m < dp x))) ∧ Below w.heap.size w w' := by
  refine It.ind (fun l b xs ih => ?_)
  intro w vb vi m h hm
  obtain ⟨a', c', a, c, blk, off, rfl, rfl, -, hI⟩ := h.opened
  show Calls Tryz.prog 86 #[iv l _ _, _] w _
  generalize b.length = nb
  cases l with
  | false =>
    have e0 : decide (m < dp (.mk false b xs)) = false := by rw [dp_mk]; simp
    rw [e0]
    clear ih hI h
    go_enter Tryz.func86, Tryz.ntmps86
    go_wp2_with fail
    go_ret
    exact ⟨rfl, below_alloc _ _⟩
  | true =>
    have e0 : dp (.mk true b xs) = 1 + dpL xs := by rw [dp_mk]; simp
    rw [e0]
    by_cases h0 : m = 0
    · subst h0
      rw [decide_eq_true (by omega)]
      clear ih hI h e0
      go_enter Tryz.func86, Tryz.ntmps86
      go_wp2_with fail
      go_ret
      exact ⟨rfl, below_alloc _ _⟩
    · obtain ⟨n, en⟩ : ∃ n, n = xs.length := ⟨_, rfl⟩
      have HN : Hid (n = xs.length) := en
      have hn := hI.hn
      rw [← en] at hn ⊢
      have i0 : ¬ ((m : Int) = 0) := by omega
      have i0b : ((m : Int) == 0) = false := by simpa using i0
      have HI : Hid (Its Vb w xs a blk off) := hI
      clear hI e0 en h
      go_enter Tryz.func86, Tryz.ntmps86
      go_wp2_with fail
      go_loopg [15] n (fun gg k wr => ∃ (i : Nat), i ≤ n ∧ gg = n - i ∧ k = .int .i64 i ∧ Below w.heap.size w wr ∧ ∀ j x, j < i → xs[j]? = some x → ¬ m - 1 < dp x)
      case atStart => exact ⟨0, Nat.zero_le _, rfl, rfl, below_alloc _ _, fun j x hj => by omega⟩
      case round =>
        obtain ⟨i, hi, rfl, rfl, hb, hd⟩ := hrel
        by_cases hin : i < n
        · have i1 : (i : Int) < (n : Int) := by omega
          obtain ⟨rfl, x, a1, n1, k1, a2, n2, k2, hx, hxm, d0, d1, d2, hL⟩ := HI.out.nth hb (i := i) (by have := HN.out; omega)
          have K := ih x hxm _ _ _ (m - 1) (hL.keep (below_alloc _ (.cells #[.bool x.l, .slice a1 n1 k1, .slice a2 n2 k2] 134))) (by omega)
          rw [show (((m - 1 : Nat) : Int)) = (m : Int) - 1 by omega] at K
          have HX : Hid (xs[i]? = some x ∧ (∀ j x, j < i → xs[j]? = some x → ¬ m - 1 < dp x) ∧ Below w.heap.size w wr) := ⟨hx, hd, hb⟩
          have HI2 : Hid (∀ x ∈ xs, dp x ≤ dpL xs) := fun x h => dp_le_dpL h
          clear hx hxm hL hd hb ih
          by_cases hdp : m - 1 < dp x
          · rw [decide_eq_true hdp] at K
            go_wp2_with (go_at_call 86; refine K.mono ?_; rintro e w1 ⟨rfl, hb1⟩; have HB : Hid (Below w.heap.size w w1) := HX.out.2.2.trans (((below_alloc _ _).mono HX.out.2.2.size).trans (hb1.mono (by have := HX.out.2.2.size; simp; omega))); clear hb1)
            go_ret
            refine ⟨?_, HB.out⟩
            rw [decide_eq_true (by have := HI2.out x (List.mem_of_getElem? HX.out.1); omega)]
            rfl
          · rw [decide_eq_false hdp] at K
            go_wp2_with (go_at_call 86; refine K.mono ?_; rintro e w1 ⟨rfl, hb1⟩; have HB : Hid (Below w.heap.size w w1) := HX.out.2.2.trans (((below_alloc _ _).mono HX.out.2.2.size).trans (hb1.mono (by have := HX.out.2.2.size; simp; omega))); clear hb1)
            go_roundg (n - (i + 1))
            case measure => omega
            case rel =>
              refine ⟨i + 1, hin, rfl, by go_num, HB.out, fun j y hj hy => ?_⟩
              by_cases e : j = i
              · subst e
                have := hy.symm.trans HX.out.1
                cases this
                exact hdp
              · exact HX.out.2.1 j y (by omega) hy
        · have i1 : ¬ (i : Int) < (n : Int) := by omega
          have e1 : decide (m < 1 + dpL xs) = false := by
            apply decide_eq_false
            have : ∀ ys : List It, (∀ x ∈ ys, ¬ m - 1 < dp x) → dpL ys ≤ m - 1 := by
              intro ys
              induction ys with
              | nil => intro _; rw [dpL_nil]; omega
              | cons y ys ihy =>
                intro h
                rw [dpL_cons]
                have h1 := h y (by simp)
                have h2 := ihy (fun x hx => h x (by simp [hx]))
                omega
            have h3 := this xs (fun x hx => by
              obtain ⟨j, hj, rfl⟩ := List.getElem_of_mem hx
              exact hd j _ (by have := HN.out; omega) (List.getElem?_eq_getElem hj))
            omega
          have HE : Hid (decide (m < 1 + dpL xs) = false) := e1
          have HB : Hid (Below w.heap.size w wr) := hb
          clear hb hd ih e1
          go_wp2_with fail
          go_ret
          exact ⟨by rw [HE.out]; rfl, HB.out⟩
end Go.Proofs.YtddpcoglbmlgcaaGreatDoor
