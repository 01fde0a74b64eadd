import Derived.Test.YtglnjacaeefddaaDoorRefUnh
import Derived.ArgAppend
namespace Go.Proofs.YtglnjacaeefddaaDoor
open Go.RowKit

theorem Tryd.info22 : (Tryd.prog.info? 22).map (fun i => (i.zero, i.size, i.bytes)) = some (some (.slice none 0 0), 1, 24) := by kernel_rfl

/-- six lists that share no room -/
structure Six (w : World) (lb : Nat) (A : Nat → Option Addr) (G N : Nat → Nat) (f : Nat → Nat → Value) : Prop where
  list : ∀ r, r < 6 → w.cell? ⟨lb, r, none⟩ = some (.slice (A r) (N r) (N r))
  at_ : ∀ r, r < 6 → 0 < N r → A r = some ⟨G r, 0, none⟩
  small : ∀ r, r < 6 → N r ≤ 4194304
  row : ∀ r, r < 6 → 0 < N r → w.rowIs (G r) 5 (N r) (f r)
  apart : ∀ r s, r < 6 → s < 6 → r ≠ s → 0 < N r → 0 < N s → G r ≠ G s
  far : ∀ r, r < 6 → 0 < N r → G r ≠ lb

/-- all but the six rows is as it was -/
structure Exc (G N : Nat → Nat) (w w' : World) : Prop where
  os : w'.os = w.os
  tape : w'.tape = w.tape
  output : w'.output = w.output
  size : w.heap.size ≤ w'.heap.size
  block : ∀ k, k < w.heap.size → (∀ r, r < 6 → 0 < N r → k ≠ G r) → w'.heap[k]? = w.heap[k]?
theorem Exc.refl (G N : Nat → Nat) (w : World) : Exc G N w w := ⟨rfl, rfl, rfl, Nat.le_refl _, fun _ _ _ => rfl⟩
theorem Exc.set {G N : Nat → Nat} {w w' : World} (h : Exc G N w w') (r c : Nat) (hr : r < 6) (hN : 0 < N r) (v : Value) : Exc G N w (w'.setCell ⟨G r, c, none⟩ v) :=
  ⟨h.os, h.tape, h.output, by simpa using h.size, fun k hk hne => (Below.heap_setCell _ _ _ _ (hne r hr hN)).trans (h.block k hk hne)⟩
theorem Exc.below {G N : Nat → Nat} {w w1 w' : World} (h : Exc G N w w1) (hb : Below w1.heap.size w1 w') : Exc G N w w' :=
  ⟨hb.os.trans h.os, hb.tape.trans h.tape, hb.output.trans h.output, Nat.le_trans h.size hb.size, fun k hk hne => (hb.block k (by have := h.size; omega)).trans (h.block k hk hne)⟩

/-- what the rows hold when list i is marked as far as j -/
def mark (f : Nat → Nat → Value) (i j r c : Nat) : Value := if r < i ∨ (r = i ∧ c < j) then .int .u8 ((r : Int) + 1) else f r c

theorem Six.set {w : World} {lb : Nat} {A : Nat → Option Addr} {G N : Nat → Nat} {f : Nat → Nat → Value} {i j : Nat} (h : Six w lb A G N (mark f i j)) (hi : i < 6) (hj : j < N i) :
    Six (w.setCell ⟨G i, j, none⟩ (.int .u8 ((i : Int) + 1))) lb A G N (mark f i (j + 1)) := by
  have hN : 0 < N i := by omega
  refine ⟨fun r hr => ?_, h.at_, h.small, fun r hr h0 => ?_, h.apart, h.far⟩
  · rw [World.cell?_setCell_other _ _ _ _ (fun e => h.far i hi hN (congrArg Addr.block e))]
    exact h.list r hr
  · by_cases e : r = i
    · subst e
      refine ((h.row r hr h0).set j _).congr (fun c _ => ?_)
      unfold mark
      by_cases ec : c = j
      · subst ec
        rw [if_pos rfl, if_pos (Or.inr ⟨rfl, by omega⟩)]
      · rw [if_neg ec]
        by_cases hlt : c < j
        · rw [if_pos (Or.inr ⟨rfl, hlt⟩), if_pos (Or.inr ⟨rfl, by omega⟩)]
        · rw [if_neg (by omega), if_neg (by omega)]
    · refine ((h.row r hr h0).setOther (h.apart r i hr hi e h0 hN) _).congr (fun c _ => ?_)
      unfold mark
      by_cases hlt : r < i
      · rw [if_pos (Or.inl hlt), if_pos (Or.inl hlt)]
      · rw [if_neg (by omega), if_neg (by omega)]
theorem Six.next {w : World} {lb : Nat} {A : Nat → Option Addr} {G N : Nat → Nat} {f : Nat → Nat → Value} {i : Nat} (h : Six w lb A G N (mark f i (N i))) : Six w lb A G N (mark f (i + 1) 0) :=
  ⟨h.list, h.at_, h.small, fun r hr h0 => (h.row r hr h0).congr (fun c hc => by
    unfold mark
    by_cases hlt : r < i
    · rw [if_pos (Or.inl hlt), if_pos (Or.inl (by omega))]
    · by_cases e : r = i
      · subst e
        rw [if_pos (Or.inr ⟨rfl, hc⟩), if_pos (Or.inl (by omega))]
      · rw [if_neg (by omega), if_neg (by omega)]), h.apart, h.far⟩
theorem Six.start {w : World} {lb : Nat} {A : Nat → Option Addr} {G N : Nat → Nat} {f : Nat → Nat → Value} (h : Six w lb A G N f) : Six w lb A G N (mark f 0 0) :=
  ⟨h.list, h.at_, h.small, fun r hr h0 => (h.row r hr h0).congr (fun c _ => by unfold mark; rw [if_neg (by omega)]), h.apart, h.far⟩

theorem own_mono {w : World} {B B' : Nat} {e : TypeId} {sz : Nat} {v : Value} {n : Nat} {xs : List Value} (h : w.ownsRow B e sz v n xs) (hB : B' ≤ B) : w.ownsRow B' e sz v n xs := by
  obtain ⟨h1, h2⟩ := h
  refine ⟨h1, ?_⟩
  rcases h2 with h2 | ⟨g, cap, cur, hv, hb, r⟩
  · exact Or.inl h2
  · exact Or.inr ⟨g, cap, cur, hv, by omega, r⟩

/-- n times one value -/
def rep (n : Nat) (x : Int) : List Value := List.replicate n (.int .u8 x)
theorem rep_len (n : Nat) (x : Int) : (rep n x).length = n := by simp [rep]
theorem rep_succ (n : Nat) (x : Int) : rep n x ++ [.int .u8 x] = rep (n + 1) x := by
  unfold rep
  rw [List.replicate_succ']
theorem rep_at {n : Nat} {x : Int} {j : Nat} {u : Value} (h : (rep n x)[j]? = some u) : j < n ∧ u = .int .u8 x := by
  unfold rep at h
  rw [List.getElem?_replicate] at h
  split at h
  · exact ⟨by assumption, by simpa using h.symm⟩
  · cases h
theorem rep_get (n : Nat) (x : Int) (j : Nat) (h : j < n) : (rep n x)[j]? = some (.int .u8 x) := by
  unfold rep
  simp [h]

/-- a longer list -/
def lx (N xb xc : Nat → Nat) (r : Nat) : Value := .slice (some ⟨xb r, 0, none⟩) (N r + 80) (xc r)

/-- WHAT HOLDS WHEN k LISTS ARE MADE LONGER. -/
structure Longer (W wr : World) (N xb xc : Nat → Nat) (v : Value) (k : Nat) : Prop where
  own : wr.ownsRow W.heap.size 22 1 v k ((List.range k).map (lx N xb xc))
  low : ∀ r, r < k → W.heap.size ≤ xb r
  rows : ∀ r, r < k → ∀ j, j < N r + 80 → wr.cell? ⟨xb r, j, none⟩ = some (.int .u8 ((r : Int) + 1))
  bel : Below W.heap.size W wr

theorem Longer.start (W : World) (N : Nat → Nat) : Longer W W N (fun _ => 0) (fun _ => 0) (.slice none 0 0) 0 :=
  ⟨World.ownsRow_nil _ _ _ _, fun r hr => absurd hr (by omega), fun r hr => absurd hr (by omega), Below.refl _ _⟩

theorem Longer.far {W wr : World} {N xb xc : Nat → Nat} {v : Value} {k : Nat} (h : Longer W wr N xb xc v k) (r : Nat) (hr : r < k) : v.ownBlock ≠ some (xb r) := by
  intro e
  obtain ⟨g, cap, rfl, _, _⟩ := h.own.form (by omega)
  have hg : g = xb r := by simpa [Value.ownBlock] using e
  subst hg
  have h1 := h.own.cellAt 0 (by omega)
  have h2 := h.rows r hr 0 (by omega)
  rw [h2] at h1
  have h3 : ((List.range k).map (lx N xb xc))[0]? = some (lx N xb xc 0) := by
    have : 0 < k := by omega
    simp [this]
  rw [h3] at h1
  unfold lx at h1
  simp at h1

/-- one more -/
theorem Longer.next {W wr wi w1 : World} {N xb xc : Nat → Nat} {v v' : Value} {k g c : Nat} (h : Longer W wr N xb xc v k) (hi : Below wr.heap.size wr wi)
    (ho : wi.ownsRow wr.heap.size 5 1 (.slice (some ⟨g, 0, none⟩) (N k + 80) c) (N k + 80) (rep (N k + 80) ((k : Int) + 1)))
    (ho1 : w1.ownsRow W.heap.size 22 1 v' (k + 1) ((List.range k).map (lx N xb xc) ++ [.slice (some ⟨g, 0, none⟩) (N k + 80) c]))
    (hg : (wi.alloc (.cells #[.slice (some ⟨g, 0, none⟩) (N k + 80) c] 22)).grownBy w1 v.ownBlock) :
    Longer W w1 N (fun r => if r = k then g else xb r) (fun r => if r = k then c else xc r) v' (k + 1) := by
  have hW := h.bel.size
  have hw := hi.size
  obtain ⟨hg1, hg2⟩ := ho.lt g rfl
  have hv : ∀ j, v.ownBlock = some j → W.heap.size ≤ j ∧ j < wr.heap.size := h.own.lt
  refine ⟨?_, fun r hr => ?_, fun r hr j hj => ?_, ?_⟩
  · have e : (List.range (k + 1)).map (lx N (fun r => if r = k then g else xb r) (fun r => if r = k then c else xc r)) = (List.range k).map (lx N xb xc) ++ [.slice (some ⟨g, 0, none⟩) (N k + 80) c] := by
      rw [List.range_succ, List.map_append]
      congr 1
      · refine List.map_congr_left fun r hr => ?_
        have : r ≠ k := by have : r < k := by simpa using hr
                           omega
        simp [lx, this]
      · simp [lx]
    rw [e]
    exact ho1
  · by_cases e : r = k
    · simp only [e, if_true]; omega
    · simp only [e, if_false]
      exact h.low r (by omega)
  · by_cases e : r = k
    · subst e
      simp only [if_true]
      rw [hg.cell_far ⟨g, j, none⟩ (by simp; omega) (fun e => by have := hv g e.symm; omega), World.cell?_alloc_lt _ _ _ (by exact hg2), ho.cellAt j (by omega), rep_get _ _ _ hj]
    · simp only [e, if_false]
      have hr' : r < k := by omega
      have hlt : xb r < wr.heap.size := World.block_lt_of_cell? _ _ (h.rows r hr' 0 (by omega))
      rw [hg.cell_far ⟨xb r, j, none⟩ (by show xb r < _; simp; omega) (fun e => h.far r hr' e.symm), World.cell?_alloc_lt _ _ _ (by show xb r < _; omega), hi.cell (p := ⟨xb r, j, none⟩) hlt]
      exact h.rows r hr' j hj
  · exact ((h.bel.trans (hi.mono hW)).alloc (by omega) _).grown hg (by simp; omega) (fun j hj => (hv j hj).1)

set_option maxRecDepth 100000 in
set_option maxHeartbeats 1600000 in
theorem apart_any (w : World) (lb : Nat) (A : Nat → Option Addr) (G N : Nat → Nat) (f : Nat → Nat → Value) (h : Six w lb A G N f) :
    Calls Tryd.prog 24 #[.slice (some ⟨lb, 0, none⟩) 6 6] w fun e w' => e = .returned (.bool true) ∧ Exc G N w w' := by
  have HS : Hid (Six w lb A G N (mark f 0 0)) := h.start
  clear h
  go_enter Tryd.func24, Tryd.ntmps24
  go_wp2
  go_loopg [3] 6 (fun g i wr => ∃ k : Nat, k ≤ 6 ∧ g = 6 - k ∧ i = .int .i64 k ∧ Six wr lb A G N (mark f k 0) ∧ Exc G N w wr)
  case atStart => exact ⟨0, by omega, rfl, rfl, HS.out, Exc.refl _ _ _⟩
  case round =>
    obtain ⟨k, hk, rfl, rfl, hs, hx⟩ := hrel
    by_cases hk6 : k < 6
    · obtain ⟨wo, hwo⟩ : ∃ wo : World, wo = wr := ⟨_, rfl⟩
      have HN : Hid (N k ≤ 4194304) := hs.small k hk6
      go_wp2
      go_loopg [4] (N k) (fun g j wi => ∃ c : Nat, c ≤ N k ∧ g = N k - c ∧ j = .int .i64 c ∧ Six wi lb A G N (mark f k c) ∧ Exc G N w wi)
      case atStart => exact ⟨0, by omega, rfl, rfl, hs, hx⟩
      case round =>
        obtain ⟨c, hc, rfl, rfl, hs, hx⟩ := hrel
        have g0 := hs.list k hk6
        have n0 := HN.out
        by_cases hcN : c < N k
        · have e0 := hs.at_ k hk6 (by omega)
          have HE : Hid (A k = some ⟨G k, 0, none⟩) := e0
          rw [e0] at g0
          clear e0
          have g1 := (hs.row k hk6 (by omega)).cell hcN
          have g2 := (hs.row k hk6 (by omega)).frozen c
          have HG1 : Hid (Six (wr.setCell ⟨G k, c, none⟩ (.int .u8 ((k : Int) + 1))) lb A G N (mark f k (c + 1))) := hs.set hk6 hcN
          have HX1 : Hid (Exc G N w (wr.setCell ⟨G k, c, none⟩ (.int .u8 ((k : Int) + 1)))) := hx.set k c hk6 (by omega) _
          clear hs hx HS
          go_wp2
          go_roundg (N k - (c + 1))
          case measure => omega
          case rel => exact ⟨c + 1, by omega, rfl, by go_num, HG1.out, HX1.out⟩
        · have hcc : c = N k := by omega
          go_wp2
          go_roundg (6 - (k + 1))
          case measure => omega
          case rel => exact ⟨k + 1, by omega, rfl, by go_num, by rw [hcc] at hs; exact hs.next, hx⟩
    · obtain rfl : k = 6 := by omega
      clear HS
      obtain ⟨W, hW⟩ : ∃ W : World, W = wr := ⟨_, rfl⟩
      subst hW
      have HS : Hid (Six W lb A G N (mark f 6 0)) := hs
      have HX : Hid (Exc G N w W) := hx
      clear hs hx
      obtain ⟨i5, hi5, hy0, hy1, hy2⟩ := info_parts Tryd.info5
      obtain ⟨i22, hi22, hz0, hz1, hz2⟩ := info_parts Tryd.info22
      go_wp2
      go_loopg [5, 6] 6 (fun g v i wr => ∃ k : Nat, k ≤ 6 ∧ g = 6 - k ∧ i = .int .i64 k ∧ ∃ xb xc, Longer W wr N xb xc v k)
      case atStart => exact ⟨0, by omega, rfl, rfl, _, _, Longer.start W N⟩
      case round =>
        obtain ⟨k, hk, rfl, rfl, xb, xc, hL⟩ := hrel
        have g0 : ∀ r, r < 6 → wr.cell? ⟨lb, r, none⟩ = some (.slice (A r) (N r) (N r)) := fun r hr => (hL.bel.cell (p := ⟨lb, r, none⟩) (World.block_lt_of_cell? _ _ (HS.out.list r hr))).trans (HS.out.list r hr)
        by_cases hk6 : k < 6
        · have c0 := g0 k hk6
          have n0 := HS.out.small k hk6
          have hk6i : (k : Int) < 6 := by omega
          clear g0
          go_wp2
          obtain ⟨wo, hwo⟩ : ∃ wo : World, wo = wr := ⟨_, rfl⟩
          subst hwo
          have HL : Hid (Longer W wo N xb xc _ k) := hL
          have hold : ∀ b, A k = some b → ∀ j u, (rep (N k) ((k : Int) + 1))[j]? = some u → ∀ o, (wo.alloc o).cell? (b.add j) = some u := fun b hb j u hu o => by
            obtain ⟨hj, rfl⟩ := rep_at hu
            have e := HS.out.at_ k hk6 (by omega)
            rw [hb] at e
            obtain rfl := Option.some.inj e
            have hr := HS.out.row k hk6 (by omega)
            have c := hr.cell hj
            have hlt := hr.lt
            rw [Go.WideShapes.add_plain, Nat.zero_add, World.cell?_alloc_lt _ _ _ (by show G k < _; have := hL.bel.size; omega), hL.bel.cell (p := ⟨G k, j, none⟩) hlt, c]
            unfold mark
            rw [if_pos (Or.inl hk6)]
          have HOLD : Hid (∀ b, A k = some b → ∀ j u, (rep (N k) ((k : Int) + 1))[j]? = some u → ∀ o, (wo.alloc o).cell? (b.add j) = some u) := hold
          have HNO : Hid (A k = none → N k = 0 ∧ N k = 0) := fun h => by
            by_cases h0 : 0 < N k
            · have := HS.out.at_ k hk6 h0; rw [h] at this; cases this
            · omega
          clear hL hold c0
          go_loopg [7, 8] 80 (fun g x j wi => ∃ c : Nat, c ≤ 80 ∧ g = 80 - c ∧ j = .int .i64 c ∧ ((c = 0 ∧ x = .slice (A k) (N k) (N k) ∧ wo = wi) ∨ (0 < c ∧ wi.ownsRow wo.heap.size 5 1 x (N k + c) (rep (N k + c) ((k : Int) + 1)) ∧ Below wo.heap.size wo wi)))
          case atStart => exact ⟨0, by omega, rfl, rfl, Or.inl ⟨rfl, rfl, rfl⟩⟩
          case round =>
            obtain ⟨c, hc, rfl, rfl, hcase⟩ := hrel
            by_cases hc80 : c < 80
            · rcases hcase with ⟨rfl, rfl, rfl⟩ | ⟨hc0, hown, hbel⟩
              · go_wp2_with (first
                  | (at_builtin; refine wpList_append_grows _ rfl _ _ 22 rfl 5 i5 (.int .u8 0) 1 1 Tryd.underlying22 hi5 hy0 hy1 hy2 rfl (by decide) (A k) (N k) (N k) (rep (N k) ((k : Int) + 1)) rfl HNO.out (by rw [rep_len]; omega) (fun b hb j u hu => HOLD.out b hb j u hu _) ⟨_, 0, none⟩ 1 1 [.int .u8 ((k : Int) + 1)] rfl (by rfl) (World.news_of_block (cs := #[.int .u8 ((k : Int) + 1)]) (t := 5) (fr := (0, 0)) (heap_alloc_new _ _)) (by simp [Value.oneCell']) (by omega) (by unfold maxLen; omega) (by omega) ?_)
                  | fail)
                intro v1 w1 hown1 hgrow
                have hb1 : Below wo.heap.size wo w1 := ((Below.refl _ _).alloc (Nat.le_refl _) _).grown hgrow (by simp) (fun j hj => by cases hj)
                have ho1 : w1.ownsRow wo.heap.size 5 1 v1 (N k + 1) (rep (N k + 1) ((k : Int) + 1)) := by
                  rw [← rep_succ]
                  exact own_mono hown1 (by simp)
                clear hgrow hown1
                go_wp2
                go_roundg (80 - 1)
                case measure => omega
                case rel => exact ⟨1, by omega, rfl, by go_num, Or.inr ⟨by omega, ho1, hb1⟩⟩
              · have hsz := hbel.size
                go_wp2_with (first
                  | (at_builtin; refine wpList_append_lies _ rfl _ _ 22 rfl wo.heap.size 5 i5 (.int .u8 0) 1 1 Tryd.underlying22 hi5 hy0 hy1 hy2 rfl (by decide) _ (N k + c) _ rfl (hown.alloc _) ⟨_, 0, none⟩ 1 1 [.int .u8 ((k : Int) + 1)] rfl (by rfl) (World.news_of_block (cs := #[.int .u8 ((k : Int) + 1)]) (t := 5) (fr := (0, 0)) (heap_alloc_new _ _)) (by simp [Value.oneCell']) (by decide) (by unfold maxLen; omega) (by omega) (by simp; omega) _ rfl ?_)
                  | fail)
                intro gg cap w1 hown1 hgrow hat hlt1
                have hb1 : Below wo.heap.size wo w1 := (hbel.alloc hsz _).grown hgrow (by simp; omega) (fun j hj => (hown.lt j hj).1)
                rw [rep_succ] at hown1
                clear hgrow hat hlt1 hown
                go_wp2
                go_roundg (80 - (c + 1))
                case measure => omega
                case rel => exact ⟨c + 1, by omega, rfl, by go_num, Or.inr ⟨by omega, hown1, hb1⟩⟩
            · obtain rfl : c = 80 := by omega
              rcases hcase with ⟨h0, _⟩ | ⟨hc0, hown, hbel⟩
              · omega
              · obtain ⟨g, cx, hx, _, _⟩ := hown.form (by omega)
                have hsz := hbel.size
                have hown5 := HL.out.own.kept (w' := wr) (row := none) ⟨hbel.os, hbel.tape, hbel.output, hbel.size, fun j hj _ => hbel.block j hj⟩ (Decidable.em _)
                have hW := HL.out.bel.size
                subst hx
                go_wp2_with (first
                  | (at_builtin; refine wpList_append_lies _ rfl (.tmp 55) (.tmp 57) 43 rfl W.heap.size 22 i22 (.slice none 0 0) 1 24 Tryd.underlying43 hi22 hz0 hz1 hz2 rfl (by decide) _ k _ rfl (hown5.alloc _) ⟨_, 0, none⟩ 1 1 [.slice (some ⟨g, 0, none⟩) (N k + 80) cx] rfl (by rfl) (World.news_of_block (cs := #[.slice (some ⟨g, 0, none⟩) (N k + 80) cx]) (t := 22) (fr := (0, 0)) (heap_alloc_new _ _)) (by simp [Value.oneCell']) (by decide) (by unfold maxLen; omega) (by omega) (by simp; omega) _ rfl ?_)
                  | fail)
                intro gg cap w1 hown1 hgrow hat hlt1
                have hnext := HL.out.next hbel hown hown1 hgrow
                clear hgrow hat hlt1 hown hown1 hown5
                go_wp2
                go_roundg (6 - (k + 1))
                case measure => omega
                case rel => exact ⟨k + 1, by omega, rfl, by go_num, _, _, hnext⟩
        · obtain rfl : k = 6 := by omega
          obtain ⟨lg, lc, hv, _, _⟩ := hL.own.form (by omega)
          obtain ⟨V, hV⟩ : ∃ V : World, V = wr := ⟨_, rfl⟩
          subst hV
          have hout : Exc G N w V := HX.out.below hL.bel
          have hlg : ∀ r, r < 6 → V.cell? ⟨lg, r, none⟩ = some (lx N xb xc r) := fun r hr => by
            have ho := hL.own
            rw [hv] at ho
            rw [ho.cellAt r (by omega)]
            simp [hr]
          have hrow : ∀ r, r < 6 → ∀ j, j < N r → A r = some ⟨G r, 0, none⟩ ∧ V.cell? ⟨G r, j, none⟩ = some (.int .u8 ((r : Int) + 1)) := fun r hr j hj => by
            have h := HS.out.row r hr (by omega)
            refine ⟨HS.out.at_ r hr (by omega), ?_⟩
            rw [hL.bel.cell (p := ⟨G r, j, none⟩) h.lt, h.cell hj]
            unfold mark
            rw [if_pos (Or.inl hr)]
          have HX3 : Hid (Exc G N w V) := hout
          have HLG : Hid (∀ r, r < 6 → V.cell? ⟨lg, r, none⟩ = some (lx N xb xc r)) := hlg
          have HROW : Hid (∀ r, r < 6 → ∀ j, j < N r → A r = some ⟨G r, 0, none⟩ ∧ V.cell? ⟨G r, j, none⟩ = some (.int .u8 ((r : Int) + 1))) := hrow
          have HXR : Hid (∀ r, r < 6 → ∀ j, j < N r + 80 → V.cell? ⟨xb r, j, none⟩ = some (.int .u8 ((r : Int) + 1))) := hL.rows
          have HG0 : Hid (∀ r, r < 6 → V.cell? ⟨lb, r, none⟩ = some (.slice (A r) (N r) (N r))) := g0
          have HSM : Hid (∀ r, r < 6 → N r ≤ 4194304) := HS.out.small
          subst hv
          clear hL g0 hout hlg hrow HX HS
          go_wp2
          go_loopg [9] 6 (fun g i wr => ∃ k : Nat, k ≤ 6 ∧ g = 6 - k ∧ i = .int .i64 k ∧ wr = V)
          case atStart => exact ⟨0, by omega, rfl, rfl, rfl⟩
          case round =>
            obtain ⟨k, hk, rfl, rfl, hwr⟩ := hrel
            subst hwr
            by_cases hk6 : k < 6
            · have hk6i : (k : Int) < 6 := by omega
              have c0 := HG0.out k hk6
              have c1 := HLG.out k hk6
              unfold lx at c1
              have n0 := HSM.out k hk6
              go_wp2
              go_loopg [10] (N k + 80) (fun g j wi => ∃ c : Nat, c ≤ N k + 80 ∧ g = N k + 80 - c ∧ j = .int .i64 c ∧ wi = wr)
              case atStart => exact ⟨0, by omega, rfl, rfl, rfl⟩
              case round =>
                obtain ⟨c, hc, rfl, rfl, hwi⟩ := hrel
                subst hwi
                by_cases hcN : c < N k + 80
                · have c2 := HXR.out k hk6 c hcN
                  have i1 : (c : Int) < (N k : Int) + 80 := by omega
                  by_cases hcl : c < N k
                  · obtain ⟨e1, c3⟩ := HROW.out k hk6 c hcl
                    rw [e1] at c0
                    have HE : Hid (A k = some ⟨G k, 0, none⟩) := e1
                    clear e1
                    have i2 : (c : Int) < (N k : Int) := by omega
                    go_wp2
                    go_roundg (N k + 80 - (c + 1))
                    case measure => omega
                    case rel => exact ⟨c + 1, by omega, rfl, by go_num, rfl⟩
                  · go_wp2
                    go_roundg (N k + 80 - (c + 1))
                    case measure => omega
                    case rel => exact ⟨c + 1, by omega, rfl, by go_num, rfl⟩
                · go_wp2
                  go_roundg (6 - (k + 1))
                  case measure => omega
                  case rel => exact ⟨k + 1, by omega, rfl, by go_num, rfl⟩
            · obtain rfl : k = 6 := by omega
              go_wp2
              go_ret
              exact ⟨rfl, HX3.out⟩

end Go.Proofs.YtglnjacaeefddaaDoor
