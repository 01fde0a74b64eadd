import Derived.Test.YtlhllbggnpcoaaaDoorNo
import Derived.Test.YtlhllbggnpcoaaaDoorAcc
import Derived.Test.YtlhllbggnpcoaaaDoorEqH
/-
  A book: New.
-/
namespace Go.Proofs.YtlhllbggnpcoaaaDoor
open Go.RowKit Go.Sort Go.Maps

set_option maxRecDepth 100000 in
set_option maxHeartbeats 1600000 in
theorem new_key (w : World) (n m : Nat) (a : Option Addr) (l c : Nat) (h1 : 8 ≤ n ∧ n ≤ 256) (h2 : 8 ≤ m ∧ m ≤ 256) (hl : l ≠ 32) : Calls Tryd.prog 8 #[.int .i64 n, .int .i64 m, .slice a l c] w fun e w' => e = .returned (.tuple #[.pointer none, .int .i64 41]) ∧ Below w.heap.size w w' := by
  have c1 := maybe_yes w n (by omega) (by omega)
  have c2 := maybe_yes w m (by omega) (by omega)
  have d1 : ((l : Int) != 32) = true := bne_iff_ne.2 (by omega)
  have d2 : ¬ ((l : Int) = 32) := by omega
  have d3 : ¬ (l = 32) := hl
  go_enter Tryd.func8, Tryd.ntmps8
  go_wp2_with fail
  refine c1.mono ?_
  rintro _ w' ⟨rfl, hw'⟩
  have hw'' := hw'.symm
  subst hw''
  go_wp2_with fail
  refine c2.mono ?_
  rintro _ w' ⟨rfl, hw'⟩
  have hw'' := hw'.symm
  subst hw''
  go_wp2_with fail
  refine (blank_any w).mono ?_
  rintro _ w3 ⟨rfl, hb3, _, _⟩
  have H3 : Hid (Below w.heap.size w w3) := hb3
  clear hb3
  go_wp2_with fail
  refine (blank_any w3).mono ?_
  rintro _ w4 ⟨rfl, hb4, _, _⟩
  have H4 : Hid (Below w.heap.size w w4) := ch H3.out hb4
  clear hb4 H3
  go_wp2_with fail
  refine (blank_any w4).mono ?_
  rintro _ w5 ⟨rfl, hb5, _, _⟩
  have H5 : Hid (Below w.heap.size w w5) := ch H4.out hb5
  clear hb5 H4
  have bs := bk0_size n m (w.heap.size + 1) (w3.heap.size + 1) (w4.heap.size + 1)
  go_wp2_with (refine wpList_build_to (by rfl) 64 #[(0, .tmp 17), (1, .tmp 18), (4, .tmp 19), (5, .tmp 20), (6, .tmp 21)] (by rfl) (bk0 n m (w.heap.size + 1) (w3.heap.size + 1) (w4.heap.size + 1)) (by simp only [List.map_toArray, List.map_cons, List.map_nil]; exact builtB _ _ _ _ _) ?_)
  go_ret2
  exact ⟨rfl, H5.out.alloc H5.out.size _⟩

end Go.Proofs.YtlhllbggnpcoaaaDoor

/-
  The laws' own Secret.
-/
namespace Go.Proofs.YtlhllbggnpcoaaaDoor
open Go.RowKit

/-- 32 bytes made of any -/
def secf (n : Nat) (Y : Nat → Nat) (i : Nat) : Nat := if i < n then Y i else 0
theorem secf_lt {n : Nat} {Y : Nat → Nat} (h : ∀ i, Y i < 256) (i : Nat) : secf n Y i < 256 := by
  unfold secf
  split
  · exact h i
  · decide
structure Sc (w wr : World) (n : Nat) (Y : Nat → Nat) (k : Nat) (v : Value) : Prop where
  below : Below w.heap.size w wr
  own : wr.ownsRow w.heap.size 5 1 v k (vals (fun i => ((secf n Y i : Nat) : Int)) k)

set_option maxRecDepth 100000 in
set_option maxHeartbeats 1600000 in
theorem secret_any (w : World) (a : Option Addr) (b off n c : Nat) (Y : Nat → Nat) (hv : View w a b off n (fun i => (Y i : Int))) (hY : ∀ i, Y i < 256) :
    Calls Tryd.prog 7 #[.slice a n c] w fun e w' => ∃ a' g' c', e = .returned (.slice a' 32 c') ∧ 32 ≤ c' ∧ w.heap.size ≤ g' ∧ g' < w'.heap.size ∧ Vw w' a' g' 0 (lst 32 (secf n Y)) ∧ w'.ownsRow w.heap.size 5 1 (.slice a' 32 c') 32 (vals (fun i => ((secf n Y i : Nat) : Int)) 32) ∧ Below w.heap.size w w' := by
  have HV : Hid (View w a b off n (fun i => (Y i : Int))) := hv
  have hnl := hv.len
  have H0 : Hid (Sc w w n Y 0 (.slice none 0 0)) := ⟨Below.refl _ _, World.ownsRow_nil _ _ _ _⟩
  clear hv
  go_enter Tryd.func7, Tryd.ntmps7
  go_wp2_with fail
  go_loopg [3, 4] 32 (fun g v i wr => ∃ k : Nat, k ≤ 32 ∧ g = 32 - k ∧ i = .int .i64 k ∧ Sc w wr n Y k v)
  case atStart => exact ⟨0, by omega, rfl, rfl, H0.out⟩
  case round =>
    obtain ⟨k, hk, rfl, rfl, hR⟩ := hrel
    clear H0
    have own1 := hR.own
    have b1 := hR.below
    have s1 := b1.size
    by_cases hkn : k < 32
    · clear hR
      have HN0 : ∀ (x : Nat) (v2 : Value) (w2 : World), secf n Y k = x → w2.ownsRow w.heap.size 5 1 v2 (k + 1) (vals (fun i => ((secf n Y i : Nat) : Int)) k ++ vals (fun _ => (x : Int)) 1) → Below w.heap.size w w2 → Sc w w2 n Y (k + 1) v2 := fun x v2 w2 hx o2 b2 => ⟨b2, by rw [← vals_succ, hx]; exact o2⟩
      have HN1 : Hid (∀ (x : Nat) (v2 : Value) (w2 : World), secf n Y k = x → w2.ownsRow w.heap.size 5 1 v2 (k + 1) (vals (fun i => ((secf n Y i : Nat) : Int)) k ++ vals (fun _ => (x : Int)) 1) → Below w.heap.size w w2 → Sc w w2 n Y (k + 1) v2) := HN0
      clear HN0
      by_cases hin : k < n
      · obtain rfl := HV.out.at_ (by omega)
        have cc : wr.cell? ⟨b, off + k, none⟩ = some (.int .u8 (Y k)) := (b1.cell (p := ⟨b, off + k, none⟩) (HV.out.lt (by omega))).trans (HV.out.cell k hin)
        have hx : secf n Y k = Y k := by unfold secf; rw [if_pos hin]
        have Hx : Hid (secf n Y k = Y k) := hx
        have hy := hY k
        obtain ⟨y, hyy⟩ : ∃ y, y = Y k := ⟨_, rfl⟩
        rw [← hyy] at cc hy Hx
        have i1 : (k : Int) < (n : Int) := by omega
        clear hx hyy
        go_wp2_with (refine wpList_append_bytes (by rfl) (.tmp 18) (.tmp 20) (by rfl) w.heap.size _ k _ (by rfl) (own1.alloc _) (some ⟨wr.heap.size, 0, none⟩) wr.heap.size 0 1 1 _ (by rfl) (view_new1 wr y (by omega) (by omega)) (fun h => by cases h) (by omega) (by simp; omega) ?_)
        intro v2 w2 own2 gr2 nn2
        have HN : Hid (Sc w w2 n Y (k + 1) v2) := HN1.out y v2 w2 Hx.out own2 ((b1.alloc s1 _).trans (grown_below gr2 (own1.alloc _) (Nat.le_refl _) (by simp; omega)))
        clear own1 own2 gr2 nn2 b1 s1 HN1
        go_wp2_with fail
        go_roundg (32 - (k + 1))
        case measure => omega
        case rel => exact ⟨k + 1, by omega, rfl, by go_num, HN.out⟩
      · have hx : secf n Y k = 0 := by unfold secf; rw [if_neg hin]
        have Hx : Hid (secf n Y k = 0) := hx
        have i1 : ¬ ((k : Int) < (n : Int)) := by omega
        clear hx
        go_wp2_with (refine wpList_append_bytes (by rfl) (.tmp 18) (.tmp 20) (by rfl) w.heap.size _ k _ (by rfl) (own1.alloc _) (some ⟨wr.heap.size, 0, none⟩) wr.heap.size 0 1 1 _ (by rfl) (view_new1 wr 0 (by decide) (by decide)) (fun h => by cases h) (by omega) (by simp; omega) ?_)
        intro v2 w2 own2 gr2 nn2
        have HN : Hid (Sc w w2 n Y (k + 1) v2) := HN1.out 0 v2 w2 Hx.out own2 ((b1.alloc s1 _).trans (grown_below gr2 (own1.alloc _) (Nat.le_refl _) (by simp; omega)))
        clear own1 own2 gr2 nn2 b1 s1 HN1
        go_wp2_with fail
        go_roundg (32 - (k + 1))
        case measure => omega
        case rel => exact ⟨k + 1, by omega, rfl, by go_num, HN.out⟩
    · have : k = 32 := by omega
      subst this
      have hb : ∀ i, i < 32 → 0 ≤ ((secf n Y i : Nat) : Int) ∧ ((secf n Y i : Nat) : Int) ≤ 255 := fun i _ => by have := secf_lt (n := n) hY i; omega
      rcases own1.2 with ⟨rfl, h0⟩ | ⟨g, cap, cur, rfl, hbg, hgg, hnc, _⟩
      · omega
      · have hgl : g < wr.heap.size := (Array.getElem?_eq_some_iff.1 hgg).1
        have hvw : Vw wr (some ⟨g, 0, none⟩) g 0 (lst 32 (secf n Y)) := by
          refine vw_of ⟨fun _ => rfl, fun i hi => ?_, hb, by decide⟩
          have := own1.cells (g := g) rfl i (.int .u8 ((secf n Y i : Nat) : Int)) (by unfold vals; rw [List.getElem?_map, List.getElem?_range hi]; rfl)
          rw [addr0] at this
          rw [Nat.zero_add]
          exact this
        have HF : Hid (32 ≤ cap ∧ w.heap.size ≤ g ∧ g < wr.heap.size ∧ Vw wr (some ⟨g, 0, none⟩) g 0 (lst 32 (secf n Y)) ∧ wr.ownsRow w.heap.size 5 1 (.slice (some ⟨g, 0, none⟩) 32 cap) 32 (vals (fun i => ((secf n Y i : Nat) : Int)) 32) ∧ Below w.heap.size w wr) := ⟨hnc, hbg, hgl, hvw, own1, b1⟩
        clear hR own1 b1 s1 hb hgg hvw
        go_wp2_with fail
        go_ret
        exact ⟨_, g, cap, rfl, HF.out⟩
end Go.Proofs.YtlhllbggnpcoaaaDoor

/-
  Two books side by side, and what a law keeps beside them.
-/
namespace Go.Proofs.YtlhllbggnpcoaaaDoor
open Go.RowKit Go.Sort Go.Maps

structure TwoX (w0 w : World) (sb1 : Nat) (st1 : Bst) (sb2 : Nat) (st2 : Bst) (R : List (Nat × Array Value)) (F1 F2 : Nat → Prop) : Prop where
  below : Below w0.heap.size w0 w
  ground : Ground w
  b1 : Book w w0.heap.size sb1 st1 F1
  b2 : Book w w0.heap.size sb2 st2 F2
  dis : ∀ i, F1 i → ¬ F2 i
  keep : ∀ p ∈ R, w.heap[p.1]? = some (.cells p.2 31 (0, 0)) ∧ p.1 < w.heap.size ∧ ¬ F1 p.1 ∧ ¬ F2 p.1
  big : 2 < w0.heap.size
def Two4 (w0 w : World) (sb1 : Nat) (st1 : Bst) (sb2 : Nat) (st2 : Bst) (R : List (Nat × Array Value)) : Prop := ∃ F1 F2, TwoX w0 w sb1 st1 sb2 st2 R F1 F2

theorem TwoX.step {w0 w w' : World} {sb1 : Nat} {st1 : Bst} {sb2 : Nat} {st2 : Bst} {R : List (Nat × Array Value)} {F1 F2 : Nat → Prop} (h : TwoX w0 w sb1 st1 sb2 st2 R F1 F2) (hb : Below w.heap.size w w') : TwoX w0 w' sb1 st1 sb2 st2 R F1 F2 :=
  ⟨h.below.trans (hb.mono h.below.size), h.ground.below hb, h.b1.below hb, h.b2.below hb, h.dis, fun p hp => ⟨(hb.block _ (h.keep p hp).2.1).trans (h.keep p hp).1, Nat.lt_of_lt_of_le (h.keep p hp).2.1 hb.size, (h.keep p hp).2.2⟩, h.big⟩
theorem Two4.step {w0 w w' : World} {sb1 : Nat} {st1 : Bst} {sb2 : Nat} {st2 : Bst} {R : List (Nat × Array Value)} (h : Two4 w0 w sb1 st1 sb2 st2 R) (hb : Below w.heap.size w w') : Two4 w0 w' sb1 st1 sb2 st2 R := by
  obtain ⟨F1, F2, h⟩ := h
  exact ⟨F1, F2, h.step hb⟩
theorem Two4.swap {w0 w : World} {sb1 : Nat} {st1 : Bst} {sb2 : Nat} {st2 : Bst} {R : List (Nat × Array Value)} (h : Two4 w0 w sb1 st1 sb2 st2 R) : Two4 w0 w sb2 st2 sb1 st1 R := by
  obtain ⟨F1, F2, h⟩ := h
  exact ⟨F2, F1, h.below, h.ground, h.b2, h.b1, fun i q z => h.dis i z q, fun p hp => ⟨(h.keep p hp).1, (h.keep p hp).2.1, (h.keep p hp).2.2.2, (h.keep p hp).2.2.1⟩, h.big⟩
/-- A CALL OF THE FIRST BOOK, in a world in which something more may lie. -/
theorem Two4.one {w0 w : World} {sb1 : Nat} {st1 : Bst} {sb2 : Nat} {st2 : Bst} {R : List (Nat × Array Value)} (h : Two4 w0 w sb1 st1 sb2 st2 R) (w2 : World) (hb : Below w.heap.size w w2) :
    ∃ F1, Book w2 w0.heap.size sb1 st1 F1 ∧ (∀ i, F1 i → w0.heap.size ≤ i ∧ i < w.heap.size) ∧ Ground w2 ∧ ∀ w' st1', Turned w2 w' w0.heap.size sb1 st1' F1 → Two4 w0 w' sb1 st1' sb2 st2 R := by
  obtain ⟨F1, F2, h⟩ := h
  have h2 := h.step hb
  refine ⟨F1, h2.b1, h.b1.lim, h2.ground, fun w' st1' tn => ?_⟩
  obtain ⟨F', f1, f2, hbk⟩ := tn.book
  have lo : ∀ i, F1 i → w0.heap.size ≤ i := fun i q => (h.b1.lim i q).1
  have bt : Below w0.heap.size w2 w' := tn.turn.below lo h2.below.size
  refine ⟨F', F2, h2.below.trans bt, h2.ground.turn tn.turn (fun i q => by have := lo i q; have := h.big; omega), hbk, h2.b2.turn tn.turn (fun i q z => h.dis i z q), fun i q z => ?_, fun p hp => ?_, h.big⟩
  · rcases f2 i q with q | q
    · exact h.dis i q z
    · have := (h2.b2.lim i z).2; omega
  · have k := h2.keep p hp
    refine ⟨(tn.turn.block _ k.2.1 k.2.2.1).trans k.1, Nat.lt_of_lt_of_le k.2.1 tn.turn.size, fun q => ?_, k.2.2.2⟩
    rcases f2 _ q with q | q
    · exact k.2.2.1 q
    · omega
theorem Two4.two {w0 w : World} {sb1 : Nat} {st1 : Bst} {sb2 : Nat} {st2 : Bst} {R : List (Nat × Array Value)} (h : Two4 w0 w sb1 st1 sb2 st2 R) (w2 : World) (hb : Below w.heap.size w w2) :
    ∃ F2, Book w2 w0.heap.size sb2 st2 F2 ∧ (∀ i, F2 i → w0.heap.size ≤ i ∧ i < w.heap.size) ∧ Ground w2 ∧ ∀ w' st2', Turned w2 w' w0.heap.size sb2 st2' F2 → Two4 w0 w' sb1 st1 sb2 st2' R := by
  obtain ⟨F, h1, h2, h3, h4⟩ := h.swap.one w2 hb
  exact ⟨F, h1, h2, h3, fun w' st' t => (h4 w' st' t).swap⟩
/-- a hash laid into a box of the law's own -/
theorem Two4.box {w0 w : World} {sb1 : Nat} {st1 : Bst} {sb2 : Nat} {st2 : Bst} {R : List (Nat × Array Value)} (h : Two4 w0 w sb1 st1 sb2 st2 R) (cs : Array Value) : Two4 w0 ((w.alloc (.cells Z32 31)).setRow w.heap.size cs) sb1 st1 sb2 st2 ((w.heap.size, cs) :: R) := by
  obtain ⟨F1, F2, h⟩ := h
  have hb : Below w.heap.size w ((w.alloc (.cells Z32 31)).setRow w.heap.size cs) := below_setRow ((Below.refl _ _).alloc (Nat.le_refl _) _) (Nat.le_refl _) _
  have h2 := h.step hb
  refine ⟨F1, F2, { h2 with keep := fun p hp => ?_ }⟩
  rcases List.mem_cons.1 hp with rfl | hp
  · refine ⟨setRow_heap _ _ _ _ _ _ (heap_alloc_new _ _), by simp, fun q => ?_, fun q => ?_⟩
    · have := (h.b1.lim _ q).2; exact absurd this (Nat.lt_irrefl _)
    · have := (h.b2.lim _ q).2; exact absurd this (Nat.lt_irrefl _)
  · exact h2.keep p hp
theorem Two4.cells {w0 w : World} {sb1 : Nat} {st1 : Bst} {sb2 : Nat} {st2 : Bst} {R : List (Nat × Array Value)} (h : Two4 w0 w sb1 st1 sb2 st2 R) {g : Nat} {cs : Array Value} (hm : (g, cs) ∈ R) : w.heap[g]? = some (.cells cs 31 (0, 0)) := by
  obtain ⟨F1, F2, h⟩ := h
  exact (h.keep _ hm).1
theorem Two4.belowW {w0 w : World} {sb1 : Nat} {st1 : Bst} {sb2 : Nat} {st2 : Bst} {R : List (Nat × Array Value)} (h : Two4 w0 w sb1 st1 sb2 st2 R) : Below w0.heap.size w0 w ∧ Ground w ∧ 2 < w0.heap.size := by
  obtain ⟨F1, F2, h⟩ := h
  exact ⟨h.below, h.ground, h.big⟩
/-- two new books -/
theorem two_new {w0 w1 w2 w3 : World} {sb1 sb2 : Nat} {st1 st2 : Bst} {F1 F2 : Nat → Prop} (hG : Ground w0) (hb : Below w0.heap.size w0 w1) (hb1 : Below w1.heap.size w1 w2) (h1 : Book w2 w0.heap.size sb1 st1 F1) (hb2 : Below w2.heap.size w2 w3) (h2 : Book w3 w0.heap.size sb2 st2 F2) (hf : ∀ i, F2 i → w2.heap.size ≤ i) : Two4 w0 w3 sb1 st1 sb2 st2 [] :=
  ⟨F1, F2, (hb.trans (hb1.mono hb.size)).trans (hb2.mono (Nat.le_trans hb.size hb1.size)), ((hG.below hb).below hb1).below hb2, h1.below hb2, h2, fun i q z => by have := (h1.lim i q).2; have := hf i z; omega, fun p hp => by simp at hp, hG.big⟩
end Go.Proofs.YtlhllbggnpcoaaaDoor
