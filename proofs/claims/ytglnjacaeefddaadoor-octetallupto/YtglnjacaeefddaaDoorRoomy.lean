import Derived.Test.YtglnjacaeefddaaDoorRefW
import Derived.Deep.AppendLies
import Derived.Laws.AppendOwnNone
namespace Go.Proofs.YtglnjacaeefddaaDoor
open Go.RowKit

/-- a list with marks behind it, in new memory -/
structure Roomed (w w' : World) (g n cap : Nat) (Z : Nat → Int) : Prop where
  lo : w.heap.size ≤ g
  hi : g < w'.heap.size
  cell : ∀ i, i < n → w'.cell? ⟨g, i, none⟩ = some (.int .u8 (Z i))
  m0 : w'.cell? ⟨g, n, none⟩ = some (.int .u8 77)
  m1 : w'.cell? ⟨g, n + 1, none⟩ = some (.int .u8 78)
  m2 : w'.cell? ⟨g, n + 2, none⟩ = some (.int .u8 79)
  fr : ∀ i, w'.frozen? ⟨g, i, none⟩ = false
  room : n + 3 ≤ cap
  below : Below w.heap.size w w'

theorem roomed_of {w w' : World} {g n cap : Nat} {Z : Nat → Int} {xs : List Value} (hx : xs = (List.range n).map (fun i => Value.int .u8 (Z i)))
    (h : w'.ownsRow w.heap.size 5 1 (.slice (some ⟨g, 0, none⟩) (n + 3) cap) (n + 3) (xs ++ [.int .u8 77, .int .u8 78, .int .u8 79])) (hg : g < w'.heap.size) (hb : Below w.heap.size w w') : Roomed w w' g n cap Z := by
  subst hx
  have hc := fun j (hj : j < n + 3) => h.cellAt j (by omega)
  have hl : ((List.range n).map (fun i => Value.int .u8 (Z i))).length = n := by simp
  have hb0 := h.lt g rfl
  refine ⟨hb0.1, hg, fun i hi => ?_, ?_, ?_, ?_, fun i => h.frozenAt i, ?_, hb⟩
  · rw [hc i (by omega), List.getElem?_append_left (by rw [hl]; exact hi)]
    simp [hi]
  · rw [hc n (by omega), List.getElem?_append_right (by rw [hl]; omega), hl]
    simp
  · rw [hc (n + 1) (by omega), List.getElem?_append_right (by rw [hl]; omega), hl]
    simp
  · rw [hc (n + 2) (by omega), List.getElem?_append_right (by rw [hl]; omega), hl]
    simp
  · rcases h.2 with ⟨h0, _⟩ | ⟨g', cap', cur, hv, _, _, hn, _⟩
    · cases h0
    · simp only [Value.slice.injEq] at hv
      omega

set_option maxHeartbeats 800000 in
theorem roomy_pos (w : World) (b off n c : Nat) (Z : Nat → Int) (h : View w (some ⟨b, off, none⟩) b off n Z) (h0 : 0 < n) (hn : n ≤ 1048576) :
    Calls Tryd.prog 15 #[.slice (some ⟨b, off, none⟩) n c] w fun e w' => ∃ g cap, e = .returned (.slice (some ⟨g, 0, none⟩) n cap) ∧ Roomed w w' g n cap Z := by
  obtain ⟨i0, hi, hz0, hz1, hz2⟩ := info_parts Tryd.info5
  have HV : Hid (View w (some ⟨b, off, none⟩) b off n Z) := h
  have hlt := h.lt h0
  clear h
  go_enter Tryd.func15, Tryd.ntmps15
  go_wp2_with (first
    | (at_builtin; refine wpList_append_lies _ rfl (.tmp 3) (.tmp 4) 22 rfl w.heap.size 5 i0 (.int .u8 0) 1 1 Tryd.underlying22 hi hz0 hz1 hz2 rfl (by decide) _ 0 [] rfl (World.ownsRow_lit w #[] 0 (Nat.le_refl _) (by decide) rfl) ⟨b, off, none⟩ n c ((List.range n).map (fun i => Value.int .u8 (Z i))) rfl (by simp) ?hn1 ?hn2 h0 ?hn3 ?hn4 (by simp) _ rfl ?_)
    | fail)
  case hn1 =>
    intro j u hu
    have hj : j < n := by
      rcases Nat.lt_or_ge j n with x | x
      · exact x
      · rw [List.getElem?_eq_none (by simpa using x)] at hu; cases hu
    have hu' : u = .int .u8 (Z j) := by simpa [hj] using hu.symm
    subst hu'
    rw [Go.WideShapes.add_plain, World.cell?_alloc_old _ _ _ (by show b ≠ w.heap.size; omega)]
    exact HV.out.cell j hj
  case hn2 =>
    intro u hu
    obtain ⟨i, _, rfl⟩ := List.mem_map.1 hu
    rfl
  case hn3 => unfold maxLen; omega
  case hn4 => omega
  intro g cap w1 hown hgrow hat hlt1
  have hbel : Below w.heap.size w w1 := ((Below.refl _ _).alloc (Nat.le_refl _) _).grown hgrow (by simp) (fun k hk => by simp [Value.ownBlock] at hk; omega)
  have hsz := hbel.size
  clear hgrow hat
  go_wp2_with (first
    | (at_builtin; refine wpList_append_lies _ rfl (.tmp 5) (.tmp 6) 22 rfl w.heap.size 5 i0 (.int .u8 0) 1 1 Tryd.underlying22 hi hz0 hz1 hz2 rfl (by decide) _ n _ rfl (hown.alloc _) ⟨w1.heap.size, 0, none⟩ 3 3 [.int .u8 77, .int .u8 78, .int .u8 79] rfl (by simp) ?hm1 ?hm2 (by decide) ?hm3 ?hm4 (by simp; omega) _ rfl ?_)
    | fail)
  case hm1 =>
    intro j u hu
    rw [Go.WideShapes.add_plain, Nat.zero_add, World.cell?_alloc_new]
    simpa using hu
  case hm2 =>
    intro u hu
    simp at hu
    rcases hu with rfl | rfl | rfl <;> rfl
  case hm3 => unfold maxLen; omega
  case hm4 => omega
  intro g2 cap2 w2 hown2 hgrow2 hat2 hlt2
  have hbel2 : Below w.heap.size w w2 := (hbel.alloc hsz _).grown hgrow2 (by simp; omega) (fun k hk => by simp [Value.ownBlock] at hk; have := (hown.lt g rfl).1; omega)
  have hR := roomed_of rfl hown2 hlt2 hbel2
  have j1 := slice_upto (some ⟨g2, 0, none⟩) (n + 3) cap2 n (by have := hR.room; omega)
  have j2 := sliceAt_upto (some ⟨g2, 0, none⟩) (n + 3) cap2 n (by have := hR.room; omega)
  clear hown hown2 hgrow2 hat2 hlt2
  go_wp2
  go_ret
  exact ⟨g2, cap2, rfl, hR⟩

theorem news3 (W : World) (B : Nat) (hB : W.heap.size = B) : ∀ j u, ([.int .u8 77, .int .u8 78, .int .u8 79] : List Value)[j]? = some u → (W.alloc (.cells #[.int .u8 77, .int .u8 78, .int .u8 79] 5)).cell? ((⟨B, 0, none⟩ : Addr).add j) = some u := by
  subst hB
  intro j u hu
  rw [Go.WideShapes.add_plain, Nat.zero_add, World.cell?_alloc_new]
  simpa using hu
theorem ones3 : ∀ u ∈ ([.int .u8 77, .int .u8 78, .int .u8 79] : List Value), u.oneCell' = true := by
  intro u hu
  simp at hu
  rcases hu with rfl | rfl | rfl <;> rfl

set_option maxHeartbeats 800000 in
theorem roomy_zero (w : World) (a : Option Addr) (c : Nat) (Z : Nat → Int) (hnil : a = none → c = 0) :
    Calls Tryd.prog 15 #[.slice a 0 c] w fun e w' => ∃ g cap, e = .returned (.slice (some ⟨g, 0, none⟩) 0 cap) ∧ Roomed w w' g 0 cap Z := by
  obtain ⟨i0, hi, hz0, hz1, hz2⟩ := info_parts Tryd.info5
  cases a with
  | none =>
    obtain rfl := hnil rfl
    have hown0 := World.ownsRow_lit (base := w.heap.size) (e := 5) (size := 1) w #[] 0 (Nat.le_refl _) (by decide) rfl
    go_enter Tryd.func15, Tryd.ntmps15
    go_wp2_with (first
      | (at_builtin; refine wpList_append_own_none rfl (.tmp 3) (.tmp 4) 22 rfl w.heap.size 5 i0 1 Tryd.underlying22 hi _ 0 [] rfl hown0 rfl ?_)
      | (at_builtin; refine wpList_append_lies _ rfl (.tmp 5) (.tmp 6) 22 rfl w.heap.size 5 i0 (.int .u8 0) 1 1 Tryd.underlying22 hi hz0 hz1 hz2 rfl (by decide) _ 0 [] rfl (hown0.alloc _) ⟨w.heap.size + 1, 0, none⟩ 3 3 [.int .u8 77, .int .u8 78, .int .u8 79] rfl (by simp) (news3 _ _ (by simp)) ones3 (by decide) (by decide) (by decide) (by simp; try omega) _ rfl ?_))
    intro g2 cap2 w2 hown2 hgrow2 hat2 hlt2
    have hbel2 : Below w.heap.size w w2 := (((Below.refl _ _).alloc (Nat.le_refl _) _).alloc (by simp) _).grown hgrow2 (by simp; omega) (fun k hk => by simp [Value.ownBlock] at hk; omega)
    have hR : Roomed w w2 g2 0 cap2 Z := roomed_of rfl (by simpa using hown2) hlt2 hbel2
    have j1 := slice_upto (some ⟨g2, 0, none⟩) 3 cap2 0 (by omega)
    have j2 := sliceAt_upto (some ⟨g2, 0, none⟩) 3 cap2 0 (by omega)
    clear hown2 hgrow2 hat2 hlt2
    go_wp2
    go_ret
    exact ⟨g2, cap2, rfl, hR⟩
  | some p =>
    have hown0 := World.ownsRow_lit (base := w.heap.size) (e := 5) (size := 1) w #[] 0 (Nat.le_refl _) (by decide) rfl
    go_enter Tryd.func15, Tryd.ntmps15
    go_wp2_with (first
      | (at_builtin; refine wpList_append_own _ rfl (.tmp 3) (.tmp 4) 22 rfl w.heap.size 5 i0 (.int .u8 0) 1 1 Tryd.underlying22 hi hz0 hz1 hz2 rfl (by decide) _ 0 [] rfl hown0 p 0 c [] rfl (by simp) (by simp) (by simp) (by decide) (by decide) (by simp) ?_)
      | fail)
    intro v1 w1 hown hgrow hiff
    have hbel : Below w.heap.size w w1 := ((Below.refl _ _).alloc (Nat.le_refl _) _).grown hgrow (by simp) (fun k hk => by simp [Value.ownBlock] at hk; omega)
    have hsz := hbel.size
    have hex : ∃ g cap, v1 = .slice (some ⟨g, 0, none⟩) 0 cap := by
      rcases hown.2 with ⟨h0, _⟩ | ⟨g, cap, cur, hv, _⟩
      · exact absurd h0 hiff
      · exact ⟨g, cap, hv⟩
    obtain ⟨g, cap, hv⟩ := hex
    rw [hv] at hown
    rw [hv]
    have hg0 := (hown.lt g rfl).1
    clear hgrow hiff hv hown0
    go_wp2_with (first
      | (at_builtin; refine wpList_append_lies _ rfl (.tmp 5) (.tmp 6) 22 rfl w.heap.size 5 i0 (.int .u8 0) 1 1 Tryd.underlying22 hi hz0 hz1 hz2 rfl (by decide) _ 0 [] rfl (hown.alloc _) ⟨w1.heap.size, 0, none⟩ 3 3 [.int .u8 77, .int .u8 78, .int .u8 79] rfl (by simp) (news3 _ _ (by simp)) ones3 (by decide) (by decide) (by decide) (by simp; try omega) _ rfl ?_)
      | fail)
    intro g2 cap2 w2 hown2 hgrow2 hat2 hlt2
    have hbel2 : Below w.heap.size w w2 := (hbel.alloc hsz _).grown hgrow2 (by simp; omega) (fun k hk => by simp [Value.ownBlock] at hk; omega)
    have hR : Roomed w w2 g2 0 cap2 Z := roomed_of rfl (by simpa using hown2) hlt2 hbel2
    have j1 := slice_upto (some ⟨g2, 0, none⟩) 3 cap2 0 (by omega)
    have j2 := sliceAt_upto (some ⟨g2, 0, none⟩) 3 cap2 0 (by omega)
    clear hown2 hgrow2 hat2 hlt2
    go_wp2
    go_ret
    exact ⟨g2, cap2, rfl, hR⟩

/-- Roomy, of whatever list -/
theorem roomy_any (w : World) (a : Option Addr) (b off n c : Nat) (Z : Nat → Int) (h : View w a b off n Z) (hn : n ≤ 1048576) (hnil : a = none → c = 0) :
    Calls Tryd.prog 15 #[.slice a n c] w fun e w' => ∃ g cap, e = .returned (.slice (some ⟨g, 0, none⟩) n cap) ∧ Roomed w w' g n cap Z := by
  by_cases h0 : 0 < n
  · obtain rfl := h.at_ h0
    exact roomy_pos w b off n c Z h h0 hn
  · obtain rfl : n = 0 := by omega
    exact roomy_zero w a c Z hnil

theorem Roomed.view {w w' : World} {g n cap : Nat} {Z : Nat → Int} (h : Roomed w w' g n cap Z) (hb : ∀ i, i < n → 0 ≤ Z i ∧ Z i ≤ 255) (hn : n ≤ 281474976710656) : View w' (some ⟨g, 0, none⟩) g 0 n Z :=
  ⟨fun _ => rfl, fun i hi => by rw [Nat.zero_add]; exact h.cell i hi, hb, hn⟩

end Go.Proofs.YtglnjacaeefddaaDoor
