import Derived.Test.YtpmdjopojcgpeaaGreatDoorYsq
import Derived.Test.YtpmdjopojcgpeaaGreatDoorCaq
import Derived.Test.YtpmdjopojcgpeaaGreatDoorBsq
import Derived.Test.YtpmdjopojcgpeaaGreatDoorBuq
import Derived.Test.YtpmdjopojcgpeaaGreatDoorRSmq
/-
  (*Device).Reg, whatever access does. (Written by gen_rg.py.)
-/
namespace Go.Proofs.YtpmdjopojcgpeaaGreatDoor
open Go.RowKit

theorem res2 {fn : Func} {p t : Tmp} {ty : TypeId} (h : fn.results = #[.cell p ty, .tmp t]) (tmps : Array Value) (w : World) (g : Nat) (v : Value)
    (hp : tmps.getD p undef = .pointer (some ⟨g, 0, none⟩)) (hl : (loadVar ty ⟨g, 0, none⟩).run Tryz.prog w = .ok v w) :
    (results fn tmps).run Tryz.prog w = .ok (.tuple #[v, tmps.getD t undef]) w := by
  have hp' : tmps[p]?.getD undef = .pointer (some ⟨g, 0, none⟩) := by simpa using hp
  simp [results, h, hp', asAddr, hl]
theorem zero39 : (Tryz.prog.info? 66).map (fun i => (i.zero, i.size)) = some (some (.agg (rgc 0 z32).toArray), 33) := by kernel_rfl
theorem i39' {c : Int} {tag : List Nat} (h : tag.length = 32) : (Tryz.prog.info? 66).map (·.size) = some (rgc c tag).length := by rw [rgc_len h]; exact i39
theorem rgc_one (c : Int) (tag : List Nat) : (rgc c tag).toArray.all (·.oneCell') = true := by
  refine all_oneCell_toArray (fun x hx => ?_)
  unfold rgc bv at hx
  simp only [List.mem_cons, List.mem_map] at hx
  rcases hx with rfl | ⟨y, _, rfl⟩ <;> rfl
end Go.Proofs.YtpmdjopojcgpeaaGreatDoor

/-
  media.Load and New of nothing: what is refused.
-/
namespace Go.Proofs.YtpmdjopojcgpeaaGreatDoor
open Go.RowKit

set_option maxRecDepth 100000 in
set_option maxHeartbeats 1600000 in
theorem load_limits (w : World) (sl rm : Int) (cv : Value) (h : limB sl rm = false) :
    Calls Tryz.prog 35 #[.agg (mdc sl rm nilS nilS 0 z32).toArray, cv] w fun e w' => e = .returned (.tuple #[.pointer none, .int .i64 80]) ∧ Below w.heap.size w w' := by
  have HR : Hid ((w.alloc (.cells (mdc sl rm nilS nilS 0 z32).toArray 68)).rangeAt w.heap.size 0 (mdc sl rm nilS nilS 0 z32)) := rng_new w _ _
  have HI : Hid ((Tryz.prog.info? 68).map (·.size) = some (mdc sl rm nilS nilS 0 z32).length) := i54' z32_len
  have HB : Hid (Below w.heap.size w (w.alloc (.cells (mdc sl rm nilS nilS 0 z32).toArray 68))) := (Below.refl _ _).alloc (Nat.le_refl _) _
  have HC : Hid (∀ u, Calls Tryz.prog 82 #[.agg (mdc sl rm nilS nilS 0 z32).toArray] u fun e w' => e = .returned (.bool false) ∧ Below u.heap.size u w') := fun u => by
    have := limits_any u sl rm nilS nilS 0 z32
    rw [h] at this
    exact this
  obtain ⟨L, hL⟩ : ∃ L, L = mdc sl rm nilS nilS 0 z32 := ⟨_, rfl⟩
  rw [← hL] at HR HI HB HC ⊢
  clear hL h
  go_enter Tryz.func35, Tryz.ntmps35
  go_wp2_with (first
    | refine wpList_load_mid_g (by kernel_rfl) 68 _ (by rfl) w.heap.size 0 (by rfl) L _ HR.out Tryz.underlying68 rfl HI.out ?_
    | (go_at_call 82; refine (HC.out _).mono ?_; rintro e w' ⟨rfl, hb⟩; have HD : Hid (Below w.heap.size w w') := HB.out.trans (hb.mono (by simp)); clear hb))
  go_ret2
  exact ⟨rfl, HD.out⟩
set_option maxRecDepth 100000 in
set_option maxHeartbeats 1600000 in
theorem load_choices {w : World} {sl rm : Int} {cv : Value} {C : List Cho} (h : limB sl rm = true) (hc : Chs w cv C) (hb : chsB C = false) :
    Calls Tryz.prog 35 #[.agg (mdc sl rm nilS nilS 0 z32).toArray, cv] w fun e w' => e = .returned (.tuple #[.pointer none, .int .i64 2]) ∧ Below w.heap.size w w' := by
  have hl : 1 ≤ sl ∧ sl ≤ 4096 ∧ 0 ≤ rm ∧ rm ≤ 1048576 := of_decide_eq_true h
  have HR : Hid ((w.alloc (.cells (mdc sl rm nilS nilS 0 z32).toArray 68)).rangeAt w.heap.size 0 (mdc sl rm nilS nilS 0 z32)) := rng_new w _ _
  have HI : Hid ((Tryz.prog.info? 68).map (·.size) = some (mdc sl rm nilS nilS 0 z32).length) := i54' z32_len
  have HI3 : Hid ((Tryz.prog.info? 66).map (·.size) = some (rgc 0 z32).length) := i39' z32_len
  have HB : Hid (Below w.heap.size w (w.alloc (.cells (mdc sl rm nilS nilS 0 z32).toArray 68))) := (Below.refl _ _).alloc (Nat.le_refl _) _
  have H1 : Hid (∀ u, Calls Tryz.prog 82 #[.agg (mdc sl rm nilS nilS 0 z32).toArray] u fun e w' => e = .returned (.bool true) ∧ Below u.heap.size u w') := fun u => by
    have := limits_any u sl rm nilS nilS 0 z32
    rw [h] at this
    exact this
  have H2 : Hid (∀ u, Calls Tryz.prog 83 #[.agg (mdc sl rm nilS nilS 0 z32).toArray] u fun e w' => e = .returned (.bool true) ∧ Below u.heap.size u w') := fun u => blobs_none u sl rm nilS 0 z32 hl.1
  have H3 : Hid (∀ u, Calls Tryz.prog 84 #[.agg (rgc 0 z32).toArray] u fun e w' => e = .returned (.bool true) ∧ Below u.heap.size u w') := fun u => by
    have := register_any u 0 z32 isH_z32
    have e : regB 0 z32 = true := by simp [regB]
    rw [e] at this
    exact this
  have H4 : Hid (∀ u, Below w.heap.size w u → Calls Tryz.prog 85 #[cv] u fun e w' => e = .returned (.bool false) ∧ Below u.heap.size u w') := fun u hu => by
    have := choices_any (hc.keep hu)
    rw [hb] at this
    exact this
  have HF : Hid (∀ u : World, u.rangeAt w.heap.size 0 (mdc sl rm nilS nilS 0 z32) → u.cell? ⟨w.heap.size, 1, none⟩ = some (.int .i64 rm) ∧ u.cell? ⟨w.heap.size, 3, none⟩ = some (.slice none 0 0) ∧ u.rangeAt w.heap.size 4 (rgc 0 z32)) := fun u q => by
    obtain ⟨_, q⟩ := rng_head q
    obtain ⟨q1, q⟩ := rng_head q
    obtain ⟨_, q⟩ := rng_head q
    obtain ⟨q3, q⟩ := rng_head q
    exact ⟨q1, q3, q⟩
  have hrm : ¬ rm < 0 := by omega
  have hrd : decide (rm < 0) = false := decide_eq_false hrm
  obtain ⟨L, hL⟩ : ∃ L, L = mdc sl rm nilS nilS 0 z32 := ⟨_, rfl⟩
  obtain ⟨G, hG⟩ : ∃ G, G = rgc 0 z32 := ⟨_, rfl⟩
  rw [← hL] at HR HI HB H1 H2 HF ⊢
  rw [← hG] at HI3 H3 HF
  obtain ⟨a, b, off, cc, e, _⟩ := hc
  subst e
  clear hL h hG hb hl
  go_enter Tryz.func35, Tryz.ntmps35
  go_wp2_with (first
    | refine wpList_load_mid_g (by kernel_rfl) 68 _ (by rfl) w.heap.size 0 (by rfl) L _ HR.out Tryz.underlying68 rfl HI.out ?_
    | (go_at_call 82; refine (H1.out _).mono ?_; rintro e w1 ⟨rfl, hb⟩; replace HR : Hid (w1.rangeAt w.heap.size 0 L) := rng_keep HR.out hb; replace HB : Hid (Below w.heap.size w w1) := HB.out.trans (hb.mono (by simp)); clear hb)
    | (go_at_call 83; refine (H2.out _).mono ?_; rintro e w2 ⟨rfl, hb⟩; replace HR : Hid (w2.rangeAt w.heap.size 0 L) := rng_keep HR.out hb; replace HB : Hid (Below w.heap.size w w2) := HB.out.trans (hb.mono HB.out.size); clear hb; obtain ⟨k1, k3, k4⟩ := HF.out _ HR.out; have HK4 : Hid (w2.rangeAt w.heap.size 4 G) := k4; clear k4)
    | refine wpList_load_mid_g (by kernel_rfl) 66 _ (by rfl) w.heap.size 4 (by rfl) G _ HK4.out Tryz.underlying66 rfl HI3.out ?_
    | (go_at_call 84; refine (H3.out _).mono ?_; rintro e w3 ⟨rfl, hb⟩; replace HB : Hid (Below w.heap.size w w3) := HB.out.trans (hb.mono HB.out.size); clear hb)
    | (go_at_call 85; refine (H4.out _ HB.out).mono ?_; rintro e w4 ⟨rfl, hb⟩; replace HB : Hid (Below w.heap.size w w4) := HB.out.trans (hb.mono HB.out.size); clear hb))
  go_ret2
  exact ⟨rfl, HB.out⟩
end Go.Proofs.YtpmdjopojcgpeaaGreatDoor

/-
  media.New, whatever Load does; what it refuses.
-/
namespace Go.Proofs.YtpmdjopojcgpeaaGreatDoor
open Go.RowKit

theorem built54_n (sl rm : Int) : Tryz.prog.built 68 [(0, .int .i64 sl), (1, .int .i64 rm)] = some (mdc sl rm nilS nilS 0 z32).toArray := by kernel_rfl
set_option maxRecDepth 100000 in
set_option maxHeartbeats 1600000 in
theorem new_of {w : World} {sl rm : Int} {cv : Value} {R : Value → Value → World → Prop}
    (K : Calls Tryz.prog 35 #[.agg (mdc sl rm nilS nilS 0 z32).toArray, cv] w fun e w' => ∃ x y, e = .returned (.tuple #[x, y]) ∧ R x y w') :
    Calls Tryz.prog 7 #[.int .i64 sl, .int .i64 rm, cv] w fun e w' => ∃ x y, e = .returned (.tuple #[x, y]) ∧ R x y w' := by
  have bd := built54_n sl rm
  have HK : Hid (Calls Tryz.prog 35 #[.agg (mdc sl rm nilS nilS 0 z32).toArray, cv] w fun e w' => ∃ x y, e = .returned (.tuple #[x, y]) ∧ R x y w') := K
  clear K
  go_enter Tryz.func7, Tryz.ntmps7
  go_wp2_with (first
    | refine wpList_bdL (by kernel_rfl) _ _ (by rfl) _ bd ?_
    | (go_at_call 35; refine HK.out.mono ?_; rintro e w' ⟨x, y, rfl, hR⟩; have HR : Hid (R x y w') := hR; clear hR HK))
  go_ret2
  exact ⟨_, _, rfl, HR.out⟩
theorem new_limits (w : World) (sl rm : Int) (cv : Value) (h : limB sl rm = false) :
    Calls Tryz.prog 7 #[.int .i64 sl, .int .i64 rm, cv] w fun e w' => e = .returned (.tuple #[.pointer none, .int .i64 80]) ∧ Below w.heap.size w w' :=
  (new_of (R := fun x y w' => x = .pointer none ∧ y = .int .i64 80 ∧ Below w.heap.size w w') ((load_limits w sl rm cv h).mono (by
    rintro e w' ⟨rfl, hb⟩
    exact ⟨_, _, rfl, rfl, rfl, hb⟩))).mono (by
    rintro e w' ⟨x, y, rfl, rfl, rfl, hb⟩
    exact ⟨rfl, hb⟩)
theorem new_choices {w : World} {sl rm : Int} {cv : Value} {C : List Cho} (h : limB sl rm = true) (hc : Chs w cv C) (hb : chsB C = false) :
    Calls Tryz.prog 7 #[.int .i64 sl, .int .i64 rm, cv] w fun e w' => e = .returned (.tuple #[.pointer none, .int .i64 2]) ∧ Below w.heap.size w w' :=
  (new_of (R := fun x y w' => x = .pointer none ∧ y = .int .i64 2 ∧ Below w.heap.size w w') ((load_choices h hc hb).mono (by
    rintro e w' ⟨rfl, hb⟩
    exact ⟨_, _, rfl, rfl, rfl, hb⟩))).mono (by
    rintro e w' ⟨x, y, rfl, rfl, rfl, hb⟩
    exact ⟨rfl, hb⟩)
end Go.Proofs.YtpmdjopojcgpeaaGreatDoor

/-
  For Load of nothing: bytes.Clone of nil; a Device built; maps that are made one behind the other.
-/
namespace Go.Proofs.YtpmdjopojcgpeaaGreatDoor
open Go.RowKit

set_option maxRecDepth 100000 in
set_option maxHeartbeats 800000 in
theorem bclone_nil (w : World) : Calls Tryz.prog 63 #[.slice none 0 0] w fun e w' => e = .returned (.slice none 0 0) ∧ w' = w := by
  have jn : ∀ u, (binOp .eql 29 (.slice none 0 0) (.slice none 0 0)).run Tryz.prog u = .ok (.bool true) u := fun u => Lib.run_eql_slice_nil u 29 5 none 0 0 0 0 Tryz.underlying29
  go_enter Tryz.func63, Tryz.ntmps63
  go_wp2_with fail
  go_ret
  exact ⟨rfl, rfl⟩
/-- a device that was just made -/
def dv0 (sl rm : Int) (m1 m2 m3 : Nat) (cu : Value) : Dvf := ⟨sl, rm, .map (some m1), nilS, 0, z32, false, cu, nilS, .map (some m2), .map (some m3), nilS, nilS⟩
set_option maxRecDepth 100000 in
theorem built72 (sl rm : Int) (m1 m2 m3 : Nat) (a : Option Addr) (n c : Nat) :
    Tryz.prog.built 123 [(0, .int .i64 sl), (1, .int .i64 rm), (2, .map (some m1)), (3, .slice none 0 0), (4, .agg (rgc 0 z32).toArray), (6, .slice a n c), (8, .map (some m2)), (9, .map (some m3))] = some (dv0 sl rm m1 m2 m3 (.slice a n c)).cells.toArray := by kernel_rfl
/-- THE BLOCKS ms ARE EMPTY MAPS, made since the world w. -/
structure Mps (w u : World) (ms : List Nat) : Prop where
  at_ : ∀ m ∈ ms, u.heap[m]? = some (.map #[] 0)
  nd : ms.Nodup
  ge : ∀ m ∈ ms, w.heap.size ≤ m
  below : Below w.heap.size w u
theorem Mps.lt {w u : World} {ms : List Nat} (h : Mps w u ms) : ∀ m ∈ ms, m < u.heap.size := fun m hm => (Array.getElem?_eq_some_iff.1 (h.at_ m hm)).1
theorem Mps.keep {w u u' : World} {ms : List Nat} (h : Mps w u ms) (k : Below u.heap.size u u') : Mps w u' ms :=
  ⟨fun m hm => (k.block m (h.lt m hm)).trans (h.at_ m hm), h.nd, h.ge, h.below.trans (k.mono h.below.size)⟩
theorem Mps.make {w u : World} {ms : List Nat} (h : Mps w u ms) : Mps w (u.alloc (.map #[] 0)) (u.heap.size :: ms) := by
  have k := h.keep ((Below.refl u.heap.size u).alloc (Nat.le_refl _) (.map #[] 0))
  refine ⟨fun m hm => ?_, List.nodup_cons.2 ⟨fun q => Nat.lt_irrefl _ (h.lt _ q), h.nd⟩, fun m hm => ?_, k.below⟩
  · rcases List.mem_cons.1 hm with rfl | hm
    · exact heap_alloc_new _ _
    · exact k.at_ m hm
  · rcases List.mem_cons.1 hm with rfl | hm
    · exact h.below.size
    · exact h.ge m hm
/-- a list of choices of its own, apart from what was made besides -/
structure Chu (w u : World) (ms : List Nat) (cu : Value) (C : List Cho) : Prop where
  own : Cho3 u w.heap.size cu C
  far : ∀ m ∈ ms, cu.ownBlock ≠ some m
theorem Chu.keep {w u u' : World} {ms : List Nat} {cu : Value} {C : List Cho} (h : Chu w u ms cu C) (k : Below u.heap.size u u') : Chu w u' ms cu C :=
  ⟨own_turn (F := fun _ => False) h.own (Turn.of_below k) (fun _ _ q => q), h.far⟩
end Go.Proofs.YtpmdjopojcgpeaaGreatDoor

/-
  A region that draws its order, by states: each state of what has come up is shown once.
-/
namespace Go.Proofs.YtpmdjopojcgpeaaGreatDoor
open Go.RowKit

section
variable {P : Program} {ops : Array Oper} {Q : Exit → Act → World → Prop} {md : Region.Mode} {S : World → Prop}
/-- each of the operations rs comes up next, and leads to a state -/
def AllReadyI (P : Program) (ops : Array Oper) (Q : Exit → Act → World → Prop) (J : Nat → Act → World → Prop) (a : Act) (w : World) (rs : List Nat) : Prop := ∀ i ∈ rs, wpOp P ops Q i (J i) a w
theorem AllReadyI.nil {J : Nat → Act → World → Prop} {a : Act} {w : World} : AllReadyI P ops Q J a w [] := fun _ h => by cases h
theorem AllReadyI.cons {J : Nat → Act → World → Prop} {a : Act} {w : World} {i : Nat} {o : Oper} {rs : List Nat} (ho : ops[i]? = some o)
    (h : ∀ K' : Act → World → Prop, Shut (∀ a w, J i a w → K' a w) → if Region.wanted o (yielded ops a.tmps) = true then Oper.wp P o a w K' Q else K' (a.put o.dst undef) w)
    (hs : AllReadyI P ops Q J a w rs) : AllReadyI P ops Q J a w (i :: rs) := fun j hj => by
  rcases List.mem_cons.1 hj with rfl | hj
  · exact wpOp_step ho (fun K' hK => h K' hK)
  · exact hs j hj
/-- THE STATES: I says what holds when n operations are left; from each state one goes on by hand, or whatever is ready leads to another. -/
theorem wpAnyH_states (I : Nat → Array Bool → Act → World → Prop)
    (hI : ∀ n l a w, I n l a w → wpAnyH P md ops Q S n l a w ∨ ∃ m rs, n = m + 1 ∧ Region.ready md ops l = rs ∧ rs ≠ [] ∧ AllReadyI P ops Q (fun i a' w' => S w' ∧ I m (l.setIfInBounds i true) a' w') a w rs) :
    ∀ n l a w, I n l a w → wpAnyH P md ops Q S n l a w := by
  intro n
  induction n with
  | zero =>
    intro l a w h
    rcases hI 0 l a w h with q | ⟨m, rs, e, _⟩
    · exact q
    · cases e
  | succ n ih =>
    intro l a w h
    rcases hI (n + 1) l a w h with q | ⟨m, rs, e, hr, hne, hA⟩
    · exact q
    · obtain rfl : n = m := by omega
      refine wpAnyH_all hr hne (fun i hi => ?_)
      refine wpOp_mono (fun a' w' q => ⟨q.1, ih _ _ _ q.2⟩) (hA i hi)
end
end Go.Proofs.YtpmdjopojcgpeaaGreatDoor

/-
  media.deeds: what each choice does.
-/
namespace Go.Proofs.YtpmdjopojcgpeaaGreatDoor
open Go.RowKit

abbrev fv (n : Nat) : Value := .func (.func n) #[] #[]
theorem built103 (a b c d : Nat) : Tryz.prog.built 200 [(0, fv a), (1, fv b), (2, fv c), (3, fv d)] = some #[fv a, fv b, fv c, fv d] := by kernel_rfl
def deedL : List Value := [fv 158, fv 158, fv 158, fv 158, fv 159, fv 160, fv 158, fv 158, fv 161, fv 162, fv 162, fv 158, fv 163, fv 164, fv 165, fv 158, fv 166, fv 166, fv 166, fv 158, fv 167, fv 168, fv 167, fv 158, fv 167, fv 167, fv 167, fv 167, fv 169, fv 169, fv 169, fv 169]
theorem built104 : Tryz.prog.built 201 [(0, .agg #[fv 158, fv 158, fv 158, fv 158]), (1, .agg #[fv 159, fv 160, fv 158, fv 158]), (2, .agg #[fv 161, fv 162, fv 162, fv 158]), (3, .agg #[fv 163, fv 164, fv 165, fv 158]), (4, .agg #[fv 166, fv 166, fv 166, fv 158]), (5, .agg #[fv 167, fv 168, fv 167, fv 158]), (6, .agg #[fv 167, fv 167, fv 167, fv 167]), (7, .agg #[fv 169, fv 169, fv 169, fv 169])] = some deedL.toArray := by kernel_rfl
theorem zero104 : (Tryz.prog.info? 201).map (fun i => (i.zero, i.size)) = some (some (.agg (List.replicate 32 Value.nilFunc).toArray), 32) := by kernel_rfl
theorem deed_one : deedL.toArray.all (·.oneCell') = true := by kernel_rfl
set_option maxRecDepth 100000 in
set_option maxHeartbeats 1600000 in
theorem deeds_any (w : World) :
    Calls Tryz.prog 127 #[] w fun e w' => e = .returned (.agg deedL.toArray) ∧ Below w.heap.size w w' := by
  obtain ⟨Z, hZ⟩ : ∃ Z, Z = List.replicate 32 Value.nilFunc := ⟨_, rfl⟩
  have hz : ∀ w, (zeroValue 201).run Tryz.prog w = .ok (.agg Z.toArray) w := by rw [hZ]; exact zero_of_info zero104
  have HL : Hid ((Tryz.prog.info? 201).map (·.size) = some deedL.length ∧ deedL.length = Z.length) := ⟨by kernel_rfl, by rw [hZ]; rfl⟩
  have HB : Hid (Below w.heap.size w (w.alloc (.cells deedL.toArray 201))) := (Below.refl w.heap.size w).alloc (Nat.le_refl _) _
  clear hZ
  go_enter Tryz.func127, Tryz.ntmps127
  refine wp_seq (wp_region_lit ?_)
  refine wpList_g (by kernel_rfl) ?_
  simp [Oper.wp, Oper.upon, execOp, hz, go_sem]
  refine wpList_nil ?_
  refine wp_seq (wp_region_lit ?_)
  refine wpList_bdL (by kernel_rfl) 200 [(0, .func 158), (1, .func 158), (2, .func 158), (3, .func 158)] (by rfl) #[fv 158, fv 158, fv 158, fv 158] (by exact built103 158 158 158 158) ?_
  refine wpList_bdL (by kernel_rfl) 200 [(0, .func 159), (1, .func 160), (2, .func 158), (3, .func 158)] (by rfl) #[fv 159, fv 160, fv 158, fv 158] (by exact built103 159 160 158 158) ?_
  refine wpList_bdL (by kernel_rfl) 200 [(0, .func 161), (1, .func 162), (2, .func 162), (3, .func 158)] (by rfl) #[fv 161, fv 162, fv 162, fv 158] (by exact built103 161 162 162 158) ?_
  refine wpList_bdL (by kernel_rfl) 200 [(0, .func 163), (1, .func 164), (2, .func 165), (3, .func 158)] (by rfl) #[fv 163, fv 164, fv 165, fv 158] (by exact built103 163 164 165 158) ?_
  refine wpList_bdL (by kernel_rfl) 200 [(0, .func 166), (1, .func 166), (2, .func 166), (3, .func 158)] (by rfl) #[fv 166, fv 166, fv 166, fv 158] (by exact built103 166 166 166 158) ?_
  refine wpList_bdL (by kernel_rfl) 200 [(0, .func 167), (1, .func 168), (2, .func 167), (3, .func 158)] (by rfl) #[fv 167, fv 168, fv 167, fv 158] (by exact built103 167 168 167 158) ?_
  refine wpList_bdL (by kernel_rfl) 200 [(0, .func 167), (1, .func 167), (2, .func 167), (3, .func 167)] (by rfl) #[fv 167, fv 167, fv 167, fv 167] (by exact built103 167 167 167 167) ?_
  refine wpList_bdL (by kernel_rfl) 200 [(0, .func 169), (1, .func 169), (2, .func 169), (3, .func 169)] (by rfl) #[fv 169, fv 169, fv 169, fv 169] (by exact built103 169 169 169 169) ?_
  simp only [Act.put, List.setIfInBounds_toArray, List.set_cons_zero, List.set_cons_succ]
  refine wpList_bdL (by kernel_rfl) 201 [(0, .tmp 1), (1, .tmp 2), (2, .tmp 3), (3, .tmp 4), (4, .tmp 5), (5, .tmp 6), (6, .tmp 7), (7, .tmp 8)] (by rfl) deedL.toArray (by exact built104) ?_
  refine wpList_stN (by kernel_rfl) 201 _ _ (by rfl) deedL Z HL.out.1 HL.out.2 deed_one (by rfl) (by rfl) ?_
  refine wpList_nil ?_
  refine wp_ret ?_
  exact bodyPost_ret (res1 rfl _ _ w.heap.size _ rfl (run_loadVar_mid _ w.heap.size 0 201 _ _ (rng_new w deedL _) Tryz.underlying201 rfl HL.out.1)) rfl ⟨rfl, HB.out⟩
end Go.Proofs.YtpmdjopojcgpeaaGreatDoor

/-
  cairnref08.same and SameMedia of nothing and nothing.
-/
namespace Go.Proofs.YtpmdjopojcgpeaaGreatDoor
open Go.RowKit

theorem vw_nil (w : World) : Vw w none 0 0 [] := by
  exact ⟨fun h => absurd h (Nat.lt_irrefl 0), fun i hi => absurd hi (Nat.not_lt_zero _), fun i hi => absurd hi (Nat.not_lt_zero _), Nat.zero_le _⟩
set_option maxRecDepth 100000 in
set_option maxHeartbeats 1600000 in
theorem same_none (w : World) :
    Calls Tryz.prog 198 #[.agg #[.slice none 0 0, .slice none 0 0], .agg #[.slice none 0 0, .slice none 0 0]] w fun e w' => e = .returned (.bool true) ∧ Below w.heap.size w w' := by
  have hr0 := rng_new w [.slice none 0 0, .slice none 0 0] 189
  have hr1 := rng_new (w.alloc (.cells #[.slice none 0 0, .slice none 0 0] 189)) [.slice none 0 0, .slice none 0 0] 189
  have HB : Hid (Below w.heap.size w ((w.alloc (.cells #[.slice none 0 0, .slice none 0 0] 189)).alloc (.cells #[.slice none 0 0, .slice none 0 0] 189))) := ((Below.refl _ _).alloc (Nat.le_refl _) _).alloc (by simp) _
  have hr0' := rng_keep hr0 ((Below.refl _ _).alloc (Nat.le_refl _) (.cells #[.slice none 0 0, .slice none 0 0] 189))
  have a0 : ((w.alloc (.cells #[.slice none 0 0, .slice none 0 0] 189)).alloc (.cells #[.slice none 0 0, .slice none 0 0] 189)).cell? ⟨w.heap.size, 0, none⟩ = some (.slice none 0 0) := hr0' 0 _ rfl
  have a1 : ((w.alloc (.cells #[.slice none 0 0, .slice none 0 0] 189)).alloc (.cells #[.slice none 0 0, .slice none 0 0] 189)).cell? ⟨w.heap.size, 1, none⟩ = some (.slice none 0 0) := hr0' 1 _ rfl
  have b0 : ((w.alloc (.cells #[.slice none 0 0, .slice none 0 0] 189)).alloc (.cells #[.slice none 0 0, .slice none 0 0] 189)).cell? ⟨w.heap.size + 1, 0, none⟩ = some (.slice none 0 0) := by
    have := hr1 0 _ rfl
    rwa [World.size_alloc] at this
  have b1 : ((w.alloc (.cells #[.slice none 0 0, .slice none 0 0] 189)).alloc (.cells #[.slice none 0 0, .slice none 0 0] 189)).cell? ⟨w.heap.size + 1, 1, none⟩ = some (.slice none 0 0) := by
    have := hr1 1 _ rfl
    rwa [World.size_alloc] at this
  clear hr0 hr1 hr0'
  go_enter Tryz.func198, Tryz.ntmps198
  go_wp2_with (go_at_call 23; refine (rsame_any _ none none 0 0 0 0 0 0 [] [] (vw_nil _) (vw_nil _)).mono ?_; rintro e w' ⟨rfl, q, rfl⟩)
  refine wp_loop_once ?_
  go_wp2_with fail
  go_ret
  exact ⟨rfl, below_drewN HB.out _⟩
end Go.Proofs.YtpmdjopojcgpeaaGreatDoor

/-
  cairnref08.SameMedia of nothing and nothing.
-/
namespace Go.Proofs.YtpmdjopojcgpeaaGreatDoor
open Go.RowKit

theorem built85_0 : Tryz.prog.built 189 [(0, nilS), (1, nilS)] = some #[nilS, nilS] := by kernel_rfl
end Go.Proofs.YtpmdjopojcgpeaaGreatDoor
