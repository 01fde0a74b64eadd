import Derived.Test.YtdigimobicfabaaGreatDoorHbzz
import Derived.Test.YtdigimobicfabaaGreatDoorG4zz
/-
  The hook of errors.As is sound; closed sentences over tables of which one is a handle of a type. (6 as in Hb.)
-/
namespace Go.Ev
open Go Go.RowKit
/-- A handle of a type. -/
def hnd (v : Value) : Bool := match v with
  | .iface _ (.agg ⟨[.pointer (some ⟨b, _, none⟩)]⟩) => Nat.blt b 1000
  | _ => false
theorem hnd_VR {v : Value} (h : hnd v = true) : VR start v v := by
  unfold hnd at h
  split at h
  · rename_i t b o
    have := VR.ptr (E := start) b o (Nat.le_of_ble_eq_true h)
    rw [show start.sh b + o = o from Nat.zero_add o, show start.ι b = b from rfl] at this
    exact .ifc _ _ _ (.agg _ _ (.cons _ _ _ _ this .nil))
  · cases h
theorem rel_startH {w : World} {hp : Tr Ob} (h : ∀ b o, hp.get b = some o → b < 1000 ∧ ∃ cs c t fr, o = .ro cs ∧ w.heap[b]? = some (.cells c t fr) ∧ ∀ (i : Nat) (v : Value), cs[i]? = some v → c[i]? = some v ∧ (plain 1 v = true ∨ hnd v = true)) : Rel w.heap.size start (.mk hp 1000 .nil) w := by
  refine ⟨rfl, Nat.le_refl _, (by show 1000 ≤ 1000 + 1; decide), fun b _ => ⟨rfl, rfl⟩, Nat.le_refl _, fun b o hb => ?_, fun b o hb ho => ?_, fun b o b' o' hb _ ho => ?_, fun b o hb hg => ?_, fun b o hb hd hr => ?_⟩
  · obtain ⟨h1, cs, c, t, fr, rfl, h2, h3⟩ := h b o hb
    exact ⟨h1, c, t, fr, h2, fun i v hv => ⟨v, by show c[0 + i]? = some v; rw [Nat.zero_add]; exact (h3 i v hv).1, (h3 i v hv).2.elim (plain_VR _ 1 v) hnd_VR⟩⟩
  · obtain ⟨_, cs, c, t, fr, rfl, _⟩ := h b o hb; exact ho.elim
  · obtain ⟨_, cs, c, t, fr, rfl, _⟩ := h b o hb; exact ho.elim
  · obtain ⟨_, cs, c, t, fr, rfl, _⟩ := h b o hb; exact absurd rfl hg
  · obtain ⟨_, cs, c, t, fr, rfl, h2, _⟩ := h b o hb
    exact ObR.lt (E := start) (b := b) (o := .ro []) (w := w) ⟨c, t, fr, h2, fun i v hv => by simp at hv⟩ (fun e => by cases e)
theorem closedH {P : Program} {hook : FuncId → Option (List Value → St → Rv)} (hm : P.follows .mixedOrders = true) {f : FuncId} {n : Nat} {tabs : List (Nat × List Value)} {W : World} (hH : HookOk W.heap.size P hook)
    (ht : ∀ p ∈ tabs, p.1 < 1000 ∧ ∃ c t fr, W.heap[p.1]? = some (.cells c t fr) ∧ ∀ (i : Nat) (v : Value), p.2[i]? = some v → c[i]? = some v ∧ (plain 1 v = true ∨ hnd v = true))
    (hx : isT (run P hook n (.call f []) (.mk (tables tabs) 1000 .nil)) = true) :
    Calls P f #[] W fun e W' => e = .returned (.bool true) ∧ Below W.heap.size W W' := by
  have hr := rel_startH (w := W) (hp := tables tabs) fun b o hb => by
    obtain ⟨p, h1, rfl, rfl⟩ := tables_get tabs (fun p hp => (ht p hp).1) b o hb
    obtain ⟨h2, c, t, fr, h3, h4⟩ := ht p h1
    exact ⟨h2, p.2, c, t, fr, rfl, h3, h4⟩
  cases hv : run P hook n (.call f []) (.mk (tables tabs) 1000 .nil) with
  | no => rw [hv] at hx; cases hx
  | ok v s' =>
    rw [hv] at hx
    have e : v = .bool true := by
      unfold isT at hx
      split at hx
      · rename_i h; cases h; rfl
      · cases hx
    subst e
    refine (eval_calls (fun rec R => draw_ok hm R) hH hr .nil hv).mono fun e W' ⟨E', v', h1, h2, h3⟩ => ?_
    rw [h2.bool_inv] at h1
    exact ⟨h1, h3.below hr⟩
end Go.Ev
namespace Go.Proofs.YtdigimobicfabaaGreatDoor
open Go Go.Ev Go.RowKit
set_option maxRecDepth 100000
def hooksA (f : FuncId) : Option (List Value → St → Rv) := cond (Nat.beq f 78) (some (asH 0 308 6 99 164 179)) (Dg.hooks f)
theorem below4 (w : World) (a b c d : Obj) : Below w.heap.size w ((((w.alloc a).alloc b).alloc c).alloc d) :=
  ((((Below.refl _ w).alloc (Nat.le_refl _) a).alloc (by simp) b).alloc (by simp; omega) c).alloc (by simp; omega) d
theorem hooksA_ok {N : Nat} : HookOk N Tryz.prog hooksA := by
  intro f g hf args args' s s' v E w h ha hx
  unfold hooksA at hf
  cases h1 : Nat.beq f 78 with
  | false => rw [h1] at hf; exact Dg.hooks_ok hf h ha hx
  | true =>
    rw [h1] at hf
    cases hf
    obtain rfl := Nat.eq_of_beq_eq_true h1
    unfold asH at hx
    split at hx
    case h_2 => cases hx
    rename_i t k n u b o
    cases hc : (Nat.beq t 164 && Nat.beq u 179 && isHnd 308 6 99 (readAt s 0 0 1)) with
    | false => rw [hc] at hx; cases hx
    | true =>
      rw [hc] at hx
      simp only [Bool.and_eq_true] at hc
      obtain ⟨⟨c1, c2⟩, c3⟩ := hc
      obtain rfl := Nat.eq_of_beq_eq_true c1
      obtain rfl := Nat.eq_of_beq_eq_true c2
      cases ha with
      | cons _ a' _ _ ha1 ha2 =>
      cases ha2 with
      | cons _ b' _ _ hb1 hb2 =>
      cases hb2
      cases ha1 with
      | ifc _ _ a1 ha1 =>
      cases ha1 with
      | agg _ l' hl =>
      cases hl with
      | cons _ i' _ _ hi hl =>
      cases hl
      obtain rfl := hi.int_inv
      cases hb1 with
      | ifc _ _ b1 hb1 =>
      obtain ⟨hbn, rfl⟩ := hb1.ptr_inv
      unfold isHnd at c3
      split at c3
      case h_2 => cases c3
      rename_i r gb te hr
      simp only [Bool.and_eq_true] at c3
      obtain ⟨⟨d1, d2⟩, d3⟩ := c3
      obtain rfl := Nat.eq_of_beq_eq_true d1
      obtain rfl := Nat.eq_of_beq_eq_true d2
      obtain rfl := Nat.eq_of_beq_eq_true d3
      obtain ⟨r', j1, j2⟩ := readAt_cell Tryz.prog h.obs hr
      cases j1 with
      | cons _ x' _ _ jx jl =>
      cases jl
      cases jx with
      | ifc _ _ y' jy =>
      cases jy with
      | agg _ l2 jl =>
      cases jl with
      | cons _ z' _ _ jz jl =>
      cases jl
      obtain ⟨_, rfl⟩ := jz.ptr_inv
      obtain ⟨i1, i2⟩ := h.base 0 (by decide)
      obtain ⟨i3, i4⟩ := h.base 6 (by decide)
      have hg := j2 0 _ rfl
      rw [i1, i2, i3, i4] at hg
      simp only [Nat.zero_add, Nat.add_zero] at hg
      unfold asOut at hx
      split at hx
      case h_2 => cases hx
      rename_i s1 hw
      cases hx
      have st1 := stp_below h (below4 w (.cells #[.pointer (some ⟨E.ι b, E.sh b + o, none⟩)] 179) (.cells #[.pointer (some ⟨6, 179, none⟩), .pointer (some ⟨w.heap.size, 0, none⟩), .int .u64 150] 249) (.cells #[.pointer (some ⟨6, 179, none⟩), .pointer (some ⟨w.heap.size, 0, none⟩), .int .u64 150] 249) (.cells #[.int k n] 164))
      obtain ⟨w', q1, q2⟩ := stp_write Tryz.prog st1.rel hw (.cons _ _ _ _ (.int k n) .nil)
      exact (as_hit k n ⟨E.ι b, E.sh b + o, none⟩ w w' hg q1).mono fun e w'' ⟨he, hw''⟩ => ⟨E, _, he, .bool true, by rw [hw'']; exact st1.trans q2⟩
end Go.Proofs.YtdigimobicfabaaGreatDoor
