/-
  ShaStates: the law.
-/
import Derived.Test.YtdhenfepfkmhhaaDoorStaW
import Derived.Test.YtdhenfepfkmhhaaDoorEqH
import Derived.Deep.RegionLaw
namespace Go.Proofs.YtdhenfepfkmhhaaDoor
open Go.RowKit Go.Sort

/-- THE SCRIPT. -/
structure Scr (w : World) (a : Option Addr) (pb po K : Nat) (Ki Wi Ti : Nat → Int) (BA : Nat → Option Addr) (bB bO bM bC : Nat → Nat) (BY : Nat → Nat → Nat) : Prop where
  at_ : 0 < K → a = some ⟨pb, po, none⟩
  c0 : ∀ i, i < K → w.cell? ⟨pb, po + i * 4, none⟩ = some (.int .i64 (Ki i))
  c1 : ∀ i, i < K → w.cell? ⟨pb, po + i * 4 + 1, none⟩ = some (.int .i64 (Wi i))
  c2 : ∀ i, i < K → w.cell? ⟨pb, po + i * 4 + 2, none⟩ = some (.int .i64 (Ti i))
  c3 : ∀ i, i < K → w.cell? ⟨pb, po + i * 4 + 3, none⟩ = some (.slice (BA i) (bM i) (bC i))
  vw : ∀ i, i < K → View w (BA i) (bB i) (bO i) (bM i) (fun j => (BY i j : Int))
  nil : ∀ i, i < K → BA i = none → bC i = 0
  bd : ∀ i j, BY i j < 256
theorem Scr.below {w w' : World} {a : Option Addr} {pb po K : Nat} {Ki Wi Ti : Nat → Int} {BA : Nat → Option Addr} {bB bO bM bC : Nat → Nat} {BY : Nat → Nat → Nat} (h : Scr w a pb po K Ki Wi Ti BA bB bO bM bC BY) (hb : Below w.heap.size w w') : Scr w' a pb po K Ki Wi Ti BA bB bO bM bC BY :=
  ⟨h.at_, fun i hi => (hb.cell (World.block_lt_of_cell? _ _ (h.c0 i hi))).trans (h.c0 i hi), fun i hi => (hb.cell (World.block_lt_of_cell? _ _ (h.c1 i hi))).trans (h.c1 i hi), fun i hi => (hb.cell (World.block_lt_of_cell? _ _ (h.c2 i hi))).trans (h.c2 i hi), fun i hi => (hb.cell (World.block_lt_of_cell? _ _ (h.c3 i hi))).trans (h.c3 i hi), fun i hi => (h.vw i hi).below hb, h.nil, h.bd⟩

theorem i4_start {w w1 : World} (hb : Below w.heap.size w w1) : I4 w ((w1.alloc (.cells #[.pointer none, .pointer none, .pointer none, .pointer none] 45)).alloc (.cells #[.slice none 0 0, .slice none 0 0, .slice none 0 0, .slice none 0 0] 46)) w1.heap.size 0 (fun _ => 0) := by
  have r1 : (w1.alloc (.cells #[.pointer none, .pointer none, .pointer none, .pointer none] 45)).rowIs w1.heap.size 45 4 (fun _ => .pointer none) := zeros_row w1 (.pointer none) 4 45
  have r2 := zeros_row (w1.alloc (.cells #[.pointer none, .pointer none, .pointer none, .pointer none] 45)) (.slice none 0 0) 4 46
  rw [World.size_alloc] at r2
  refine ⟨(hb.alloc hb.size _).alloc (by have := hb.size; simp; omega) _, hb.size, (r1.alloc _).congr (fun t _ => by rw [if_neg (by omega)]), r2, fun t ht => absurd ht (by omega), fun t ht => absurd ht (by omega), fun t u ht => absurd ht (by omega)⟩

def ov (x y z : Int) (v : Value) (t : Nat) : Value := match t with | 0 => .int .i64 x | 1 => .int .i64 y | 2 => .int .i64 z | _ => v
theorem ov_row (w : World) (x y z : Int) (v : Value) : (w.alloc (.cells #[.int .i64 x, .int .i64 y, .int .i64 z, v] 48)).rowIs w.heap.size 48 4 (ov x y z v) := by
  refine World.rowIs_alloc w #[.int .i64 x, .int .i64 y, .int .i64 z, v] 48 (ov x y z v) (fun i hi => ?_)
  have h4 : i < 4 := hi
  match i, h4 with
  | 0, _ => rfl
  | 1, _ => rfl
  | 2, _ => rfl
  | 3, _ => rfl
theorem F4.more {w wr : World} {gs T T' : Nat} {M : M4} (h : F4 w wr gs T M) (hT : T ≤ T') : F4 w wr gs T' M :=
  ⟨h.below, h.lo, h.rs, h.rb, h.st, h.pf, h.inj, h.vw, h.vb, h.nil, fun t ht => Nat.le_trans (h.len t ht) hT⟩

/-- here the walk stands -/
theorem wpList_stop {P : Program} {w : World} {ops : Array Oper} {rest : List Oper} {o : Oper} {a : Act} {Q : Exit → Act → World → Prop} (t : TypeId) (x y : Operand) (_ : o.op = .indexAddr t x y) (h : True → wpList P ops Q (o :: rest) a w) : wpList P ops Q (o :: rest) a w := h trivial
theorem own_row {w : World} {B n : Nat} {g cap : Nat} {xs : List Value} (h : w.ownsRow B 5 1 (.slice (some ⟨g, 0, none⟩) n cap) n xs) : ∃ f, w.rowIs g 5 cap f := by
  rcases h.2 with ⟨h0, _⟩ | ⟨g', cap', cur, hv, hB, hg, hc, _, hs, _⟩
  · cases h0
  · simp only [Value.slice.injEq, Option.some.injEq, Addr.mk.injEq] at hv
    obtain ⟨⟨rfl, _⟩, _, rfl⟩ := hv
    rw [Nat.mul_one] at hs
    exact ⟨fun i => cur.getD i (.int .u8 0), cur, hg, hs, fun i hi => by show cur[i]? = some (cur.getD i (.int .u8 0)); rw [Array.getD_eq_getD_getElem?, Array.getElem?_eq_getElem (by omega)]; rfl⟩
theorem row_two {w : World} {gs g u : Nat} {t n : Nat} {f : Nat → Value} {x y : Value} (h : w.rowIs g t n f) (h1 : g ≠ gs) (h2 : g ≠ gs + 1) : ((w.setCell ⟨gs, u, none⟩ x).setCell ⟨gs + 1, u, none⟩ y).rowIs g t n f := (h.setOther h1 _).setOther h2 _
/-- a new state, with other bytes, in the place u -/
theorem F4.set2 {w w2 w3 : World} {gs T T' : Nat} {M : M4} (h : F4 w w2 gs T M) {u n : Nat} {X : Nat → Nat} {a : Option Addr} {b o c : Nat} (hu : u < 4) (hb : Below w2.heap.size w2 w3) (st : St w3 w2.heap.size n X) (vw : View w3 a b o n (fun i => (X i : Int)))
    (hbv : 0 < n → gs + 2 ≤ b ∧ b < w2.heap.size ∧ ∀ t, t < 4 → b ≠ M.P t) (nil : a = none → c = 0) (hn : n ≤ T') (hT : T ≤ T') :
    F4 w ((w3.setCell ⟨gs, u, none⟩ (.pointer (some ⟨w2.heap.size, 0, none⟩))).setCell ⟨gs + 1, u, none⟩ (.slice a n c)) gs T' (M.put u w2.heap.size n X a b o c) := by
  have h3 := h.step hb
  have s1 : Save gs w3 (w3.setCell ⟨gs, u, none⟩ (.pointer (some ⟨w2.heap.size, 0, none⟩))) := (Save.refl _ _).setCell _ _
  have s2 : Save (gs + 1) (w3.setCell ⟨gs, u, none⟩ (.pointer (some ⟨w2.heap.size, 0, none⟩))) ((w3.setCell ⟨gs, u, none⟩ (.pointer (some ⟨w2.heap.size, 0, none⟩))).setCell ⟨gs + 1, u, none⟩ (.slice a n c)) := (Save.refl _ _).setCell _ _
  have lo := h.lo
  have z1 := s1.size
  have z3 := hb.size
  have l2 := (h.st 0 (by omega)).lt
  have pf0 := h.pf 0 (by omega)
  have bl : Below w.heap.size w ((w3.setCell ⟨gs, u, none⟩ (.pointer (some ⟨w2.heap.size, 0, none⟩))).setCell ⟨gs + 1, u, none⟩ (.slice a n c)) := (h3.below.trans (s1.below h.lo (by omega))).trans (s2.below (by omega) (by omega))
  have kp : ∀ g, g < w3.heap.size → gs + 2 ≤ g → ((w3.setCell ⟨gs, u, none⟩ (.pointer (some ⟨w2.heap.size, 0, none⟩))).setCell ⟨gs + 1, u, none⟩ (.slice a n c)).heap[g]? = w3.heap[g]? := fun g hg h2 => by
    rw [s2.block g (by omega) (by omega), s1.block g hg (by omega)]
  refine h.upd hu bl (fun g hg h2 _ => (kp g (by omega) h2).trans (hb.block g hg)) ?_ ?_ (st.of_block (kp _ st.lt (by omega))) (by omega) (fun t ht _ => by have := (h.st t ht).lt; omega) (fun t ht _ h0 => by have := (h.vw t ht).lt h0; omega) ?_ ?_ nil hn hT
  · exact s2.row (row_put h3.rs u _) (by omega)
  · exact row_put (s1.row h3.rb (by omega)) u _
  · refine ⟨vw.at_, fun i hi => ?_, vw.bd, vw.len⟩
    rw [← vw.cell i hi]
    refine World.cell?_of_block ?_
    exact kp _ (vw.lt (by omega)) (hbv (by omega)).1
  · intro h0
    have e := hbv h0
    exact ⟨e.1, by omega, fun t ht _ => e.2.2 t ht⟩

/-- bytes written to the state at u, and its list laid anew -/
theorem F4.grown {w w2 w3 w5 wr w10 : World} {gs T T' gg g10 c n : Nat} {M : M4} {u : Nat} {X : Nat → Nat} (h : F4 w w2 gs T M) (hu : u < 4) (h3 : Below w2.heap.size w2 w3) (h5 : Save (M.P u) w3 w5) (hst : St w5 (M.P u) n X) (h6 : Save gg w5 wr) (hgg : w2.heap.size ≤ gg) (h10 : Below wr.heap.size wr w10)
    (vw : View w10 (some ⟨g10, 0, none⟩) g10 0 n (fun i => (X i : Int))) (hg10 : wr.heap.size ≤ g10) (hn : n ≤ T') (hT : T ≤ T') :
    F4 w (w10.setCell ⟨gs + 1, u, none⟩ (.slice (some ⟨g10, 0, none⟩) n c)) gs T' (M.put u (M.P u) n X (some ⟨g10, 0, none⟩) g10 0 c) := by
  have sv : Save (gs + 1) w10 (w10.setCell ⟨gs + 1, u, none⟩ (.slice (some ⟨g10, 0, none⟩) n c)) := (Save.refl _ _).setCell _ _
  have z3 := h3.size
  have z5 := h5.size
  have z6 := h6.size
  have z10 := h10.size
  have zv := sv.size
  have lo := h.lo
  have lrs := h.rs.lt
  have lrb := h.rb.lt
  have lp := (h.st u hu).lt
  have pu := h.pf u hu
  have k10 : ∀ g, g < w2.heap.size → g ≠ M.P u → w10.heap[g]? = w2.heap[g]? := fun g hg h1 => by
    rw [h10.block g (by omega), h6.block g (by omega) (by omega), h5.block g (by omega) h1, h3.block g hg]
  have kp : ∀ g, g < w2.heap.size → g ≠ M.P u → g ≠ gs + 1 → (w10.setCell ⟨gs + 1, u, none⟩ (.slice (some ⟨g10, 0, none⟩) n c)).heap[g]? = w2.heap[g]? := fun g hg h1 h2 => by
    rw [sv.block g (by omega) h2, k10 g hg h1]
  have z0 := h.below.size
  have bl : Below w.heap.size w (w10.setCell ⟨gs + 1, u, none⟩ (.slice (some ⟨g10, 0, none⟩) n c)) :=
    ((((h.below.trans (h3.mono z0)).trans (h5.below (by omega) (by omega))).trans (h6.below (by omega) (by omega))).trans (h10.mono (by omega))).trans (sv.below (by omega) (by omega))
  refine h.upd hu bl (fun g hg h2 h1 => kp g hg h1 (by omega)) ?_ ?_ ?_ pu (fun t ht htu => h.inj u t hu ht (fun e => htu e.symm)) (fun t ht _ h0 => (h.vb t ht h0).2 u hu) ?_ ?_ (fun e => by cases e) hn hT
  · refine (h.rs.of_block (kp gs lrs (by omega) (by omega))).congr (fun t _ => ?_)
    by_cases e : t = u
    · subst e; rw [put4_at]; rfl
    · rw [put4_ne e]
  · exact row_put (h.rb.of_block (k10 (gs + 1) lrb (by omega))) u _
  · refine hst.of_block ?_
    rw [sv.block _ (by omega) (by omega), h10.block _ (by omega), h6.block _ (by omega) (by omega)]
  · exact vw.save sv (fun _ => by omega)
  · intro _
    refine ⟨by omega, by omega, fun t ht _ => ?_⟩
    have := (h.st t ht).lt
    omega

theorem write_done {w w2 w3 w5 wr w10 : World} {gs gg g10 c k g7 : Nat} {M : M4} {u : Nat} {bM : Nat → Nat} {Y : Nat → Nat} {fv : Nat → Value} {B : Nat} (h : F4 w w2 gs (tot bM k) M) (hu : u < 4) (h3 : Below w2.heap.size w2 w3) (h5 : Save (M.P u) w3 w5) (hst : St w5 (M.P u) (M.N u + bM k) (cat (M.N u) (M.X u) Y)) (h6 : Save gg w5 wr) (hgg : w2.heap.size ≤ gg) (h10 : Below wr.heap.size wr w10)
    (own : w10.ownsRow B 5 1 (.slice (some ⟨g10, 0, none⟩) (M.N u + bM k) c) (M.N u + bM k) (vals (fun i => (M.X u i : Int)) (M.N u) ++ vals (fun j => (Y j : Int)) (bM k))) (hN : M.N u + bM k ≤ 4194304) (hB : B ≤ g10) (r7 : wr.rowIs g7 48 4 fv) (hg7 : gs + 2 ≤ g7) (hY : ∀ j, Y j < 256) (eB : B = wr.heap.size) :
    ∃ M', F4 w (w10.setCell ⟨gs + 1, u, none⟩ (.slice (some ⟨g10, 0, none⟩) (M.N u + bM k) c)) gs (tot bM (k + 1)) M' ∧ (w10.setCell ⟨gs + 1, u, none⟩ (.slice (some ⟨g10, 0, none⟩) (M.N u + bM k) c)).rowIs g7 48 4 fv := by
  have lN := h.len u hu
  have e : vals (fun i => (M.X u i : Int)) (M.N u) ++ vals (fun j => (Y j : Int)) (bM k) = vals (fun i => (cat (M.N u) (M.X u) Y i : Int)) (M.N u + bM k) := by
    rw [← vals_app (fun i => (cat (M.N u) (M.X u) Y i : Int)) (M.N u) (bM k) (fun j => (Y j : Int)) (fun i hi => by simp only [cat]; rw [if_neg (by omega), Nat.add_sub_cancel_left])]
    rw [vals_congr (Y := fun i => (M.X u i : Int)) (Z := fun i => (cat (M.N u) (M.X u) Y i : Int)) (fun i hi => by simp [cat, hi])]
  rw [e] at own
  have vw : View w10 (some ⟨g10, 0, none⟩) g10 0 (M.N u + bM k) (fun i => (cat (M.N u) (M.X u) Y i : Int)) := by
    refine ⟨fun _ => rfl, fun i hi => ?_, fun i hi => ?_, by omega⟩
    · rw [Nat.zero_add, own.cellAt i (by omega)]
      simp [vals, hi]
    · have := cat_lt (n := M.N u) (fun i => h.bd hu i) hY i
      omega
  have z10 := h10.size
  have sv : Save (gs + 1) w10 (w10.setCell ⟨gs + 1, u, none⟩ (.slice (some ⟨g10, 0, none⟩) (M.N u + bM k) c)) := (Save.refl _ _).setCell _ _
  exact ⟨_, h.grown hu h3 h5 hst h6 hgg h10 vw (by omega) (by show M.N u + bM k ≤ tot bM k + bM k; omega) (by show tot bM k ≤ tot bM k + bM k; omega), sv.row (r7.of_block (h10.block _ r7.lt)) (by omega)⟩

set_option maxRecDepth 100000 in
set_option maxHeartbeats 8000000 in
theorem states_law (w : World) (a : Option Addr) (pb po K cap : Nat) (Ki Wi Ti : Nat → Int) (BA : Nat → Option Addr) (bB bO bM bC : Nat → Nat) (BY : Nat → Nat → Nat) (hS : Scr w a pb po K Ki Wi Ti BA bB bO bM bC BY) (hg : Ground w) (hr : Rounds w) (hw : 4 < w.heap.size) (hK : K ≤ 1048576) (hT : tot bM K ≤ 1048576) :
    Calls Tryd.prog 7 #[.slice a K cap] w fun e w' => e = .returned (.bool true) ∧ Below w.heap.size w w' := by
  have HS : Hid (Scr w a pb po K Ki Wi Ti BA bB bO bM bC BY ∧ Ground w ∧ Rounds w) := ⟨hS, hg, hr⟩
  clear hS hg hr
  go_enter Tryd.func7, Tryd.ntmps7
  go_wp2_with fail
  refine (awake_any _ HS.out.2.1).mono ?_
  rintro _ w1 ⟨rfl, hb1⟩
  have HI : Hid (I4 w ((w1.alloc (.cells #[.pointer none, .pointer none, .pointer none, .pointer none] 45)).alloc (.cells #[.slice none 0 0, .slice none 0 0, .slice none 0 0, .slice none 0 0] 46)) w1.heap.size 0 (fun _ => 0)) := i4_start hb1
  obtain ⟨gs, hgs⟩ : ∃ g, g = w1.heap.size := ⟨_, rfl⟩
  rw [← hgs] at HI
  have Hgs : Hid (gs = w1.heap.size) := hgs
  clear hb1 hgs
  go_wp2_with fail
  rw [← Hgs.out]
  clear Hgs
  go_loopg [5] 4 (fun g i wr => ∃ (k : Nat) (P : Nat → Nat), k ≤ 4 ∧ g = 4 - k ∧ i = .int .i64 k ∧ I4 w wr gs k P)
  case atStart => exact ⟨0, _, by omega, rfl, rfl, HI.out⟩
  case round =>
    obtain ⟨k, P, hk, rfl, rfl, hR⟩ := hrel
    clear HI
    by_cases hk4 : k < 4
    · have HR : Hid (I4 w wr gs k P ∧ Ground wr) := ⟨hR, HS.out.2.1.below hR.below⟩
      have fs := hR.rs.frozen k
      have cs := hR.rs.cell (i := k) (by omega)
      clear hR
      go_wp2_with fail
      refine (new_any _ HR.out.2.first).mono ?_
      rintro _ w2 ⟨rfl, st2, hb2⟩
      have fs2 : w2.frozen? ⟨gs, k, none⟩ = false := (hb2.frozen (p := ⟨gs, k, none⟩) HR.out.1.rs.lt).trans fs
      have cs2 := (hb2.cell (p := ⟨gs, k, none⟩) HR.out.1.rs.lt).trans cs
      have HN : Hid (I4 w (w2.setCell ⟨gs, k, none⟩ (.pointer (some ⟨wr.heap.size, 0, none⟩))) gs (k + 1) (put4 P k wr.heap.size)) := HR.out.1.next hb2 st2
      have cs3 : (w2.setCell ⟨gs, k, none⟩ (.pointer (some ⟨wr.heap.size, 0, none⟩))).cell? ⟨gs, k, none⟩ = some (.pointer (some ⟨wr.heap.size, 0, none⟩)) := by
        have e := HN.out.rs.cell (i := k) (by omega)
        rw [if_pos (by omega), put4_at] at e
        exact e
      clear st2 hb2 fs cs HR
      go_wp2_with fail
      clear fs2 cs2 cs3
      go_roundg (4 - (k + 1))
      case measure => omega
      case rel => exact ⟨k + 1, _, by omega, rfl, by go_num, HN.out⟩
    · have k4 : k = 4 := by omega
      subst k4
      have HF : Hid (F4 w wr gs (tot bM 0) ⟨P, fun _ => 0, fun _ _ => 0, fun _ => none, fun _ => 0, fun _ => 0, fun _ => 0⟩) := hR.done
      clear hR
      go_wp2_with fail
      go_loopg [6] K (fun g i wr => ∃ (k : Nat) (M : M4), k ≤ K ∧ g = K - k ∧ i = .int .i64 k ∧ F4 w wr gs (tot bM k) M)
      case atStart => exact ⟨0, _, by omega, rfl, rfl, HF.out⟩
      case round =>
        obtain ⟨k, M, hk, rfl, rfl, hR⟩ := hrel
        clear HF
        by_cases hkK : k < K
        · have SW := HS.out.1.below hR.below
          obtain rfl := SW.at_ (by omega)
          have o0 := SW.c0 k hkK
          have o1 := SW.c1 k hkK
          have o2 := SW.c2 k hkK
          have o3 := SW.c3 k hkK
          obtain ⟨u, hu⟩ : ∃ u : Nat, Wi k % 4 = (u : Int) := ⟨(Wi k % 4).toNat, by omega⟩
          have u4 : u < 4 := by omega
          have r1 := fun w0 => rest_any w0 (Wi k) 4 (by decide) (by decide)
          rw [hu] at r1
          have HR : Hid (F4 w wr gs (tot bM k) M) := hR
          have kK := tot_mono bM (show k + 1 ≤ K by omega)
          have tk : tot bM (k + 1) = tot bM k + bM k := rfl
          rw [tk] at kK
          clear hR SW hu tk
          go_wp2_with fail
          refine (r1 _).mono ?_
          rintro _ w2 ⟨rfl, e2⟩
          have HR2 : Hid (F4 w w2 gs (tot bM k) M ∧ w2.rowIs wr.heap.size 48 4 (ov (Ki k) (Wi k) (Ti k) (.slice (BA k) (bM k) (bC k))) ∧ F4 w wr gs (tot bM k) M) := by
            refine ⟨?_, ?_, HR.out⟩
            · rw [e2]
              exact HR.out.step ((Below.refl _ _).alloc (Nat.le_refl _) _)
            · rw [e2]
              exact ov_row wr _ _ _ _
          obtain ⟨g7, hg7⟩ : ∃ g, g = wr.heap.size := ⟨_, rfl⟩
          have F7 : Hid (gs + 2 ≤ g7 ∧ (∀ t, t < 4 → M.P t < g7) ∧ (∀ t, t < 4 → 0 < M.N t → M.B t < g7) ∧ w2.heap.size = g7 + 1) := by
            rw [hg7]
            refine ⟨?_, fun t ht => (HR.out.st t ht).lt, fun t ht h0 => (HR.out.vw t ht).lt h0, by rw [e2]; simp⟩
            have := HR.out.rb.lt
            have := HR.out.pf 0 (by omega)
            have := (HR.out.st 0 (by omega)).lt
            omega
          rw [← hg7] at HR2 ⊢
          clear e2 hg7 HR o0 o1 o2 o3 r1
          by_cases k1 : Ki k = 1
          · have n1 : (Ki k == 1) = true := by rw [beq_iff_eq]; exact k1
            have n3 : (Ki k == 3) = false := by rw [k1]; rfl
            clear k1
            have x0 : w2.cell? ⟨g7, 0, none⟩ = some (.int .i64 (Ki k)) := HR2.out.2.1.cell (i := 0) (by omega)
            go_wp2_with fail
            refine (new_any _ (HS.out.2.1.below HR2.out.1.below).first).mono ?_
            rintro _ w3 ⟨rfl, st3, hb3⟩
            have f3 := HR2.out.1.step hb3
            have y1 := f3.rs.cell u4
            have y2 := f3.rs.frozen u
            have y3 := f3.rb.cell u4
            have y4 := f3.rb.frozen u
            have y5 : (w3.setCell ⟨gs, u, none⟩ (.pointer (some ⟨w2.heap.size, 0, none⟩))).cell? ⟨gs + 1, u, none⟩ = some (SV M u) := ((Save.refl gs w3).setCell u _).row f3.rb (by omega) |>.cell u4
            have y6 : (w3.setCell ⟨gs, u, none⟩ (.pointer (some ⟨w2.heap.size, 0, none⟩))).frozen? ⟨gs + 1, u, none⟩ = false := ((Save.refl gs w3).setCell u _).row f3.rb (by omega) |>.frozen u
            have HZ : Hid (∃ M', F4 w ((w3.setCell ⟨gs, u, none⟩ (.pointer (some ⟨w2.heap.size, 0, none⟩))).setCell ⟨gs + 1, u, none⟩ (.slice none 0 0)) gs (tot bM (k + 1)) M' ∧ ((w3.setCell ⟨gs, u, none⟩ (.pointer (some ⟨w2.heap.size, 0, none⟩))).setCell ⟨gs + 1, u, none⟩ (.slice none 0 0)).rowIs g7 48 4 (ov (Ki k) (Wi k) (Ti k) (.slice (BA k) (bM k) (bC k)))) :=
              ⟨_, HR2.out.1.set2 u4 hb3 st3 (a := none) (b := 0) (o := 0) (c := 0) (view_empty _ _ _ _ _ _ rfl) (fun h => absurd h (by omega)) (fun _ => rfl) (by omega) (by show tot bM k ≤ tot bM k + bM k; omega), row_two (HR2.out.2.1.of_block (hb3.block _ HR2.out.2.1.lt)) (by have := F7.out.1; omega) (by have := F7.out.1; omega)⟩
            clear st3 hb3 f3 x0
            go_wp2_with (refine wpList_stop 45 (.tmp 3) (.tmp 118) (by rfl) ?_)
            clear y1 y2 y3 y4 y5 y6 HR2 F7
            revert HZ
            generalize (w3.setCell ⟨gs, u, none⟩ (.pointer (some ⟨w2.heap.size, 0, none⟩))).setCell ⟨gs + 1, u, none⟩ (.slice none 0 0) = W4
            intro HX
            intro _

            obtain ⟨M', hM', h7'⟩ := HX.out
            have s1 := hM'.rs.cell u4
            have s2 := hM'.rb.cell u4
            have s3 : W4.cell? ⟨g7, 0, none⟩ = some (.int .i64 (Ki k)) := h7'.cell (i := 0) (by omega)
            have HM : Hid (F4 w W4 gs (tot bM (k + 1)) M' ∧ Ground W4) := ⟨hM', HS.out.2.1.below hM'.below⟩
            simp only [PV, SV] at s1 s2
            clear HX hM' h7'
            go_wp2_with fail
            refine (len_any _ (M'.P u) (M'.N u) _ (HM.out.1.st u u4)).mono ?_
            rintro _ w8 ⟨rfl, e8⟩
            subst e8
            go_wp2_with fail
            clear s1 s2 s3
            go_roundg (K - (k + 1))
            case measure => omega
            case rel => exact ⟨k + 1, M', by omega, rfl, by go_num, HM.out.1⟩
          · by_cases k2 : Ki k = 2
            · have n1 : (Ki k == 1) = false := by rw [k2]; rfl
              have n2 : (Ki k == 2) = true := by rw [beq_iff_eq]; exact k2
              have n3 : (Ki k == 3) = false := by rw [k2]; rfl
              clear k1 k2
              have x0 : w2.cell? ⟨g7, 0, none⟩ = some (.int .i64 (Ki k)) := HR2.out.2.1.cell (i := 0) (by omega)
              have x3 : w2.cell? ⟨g7, 3, none⟩ = some (.slice (BA k) (bM k) (bC k)) := HR2.out.2.1.cell (i := 3) (by omega)
              have S2 := HS.out.1.below HR2.out.1.below
              have V2 := S2.vw k hkK
              have bk : 0 < bM k → bB k < w.heap.size := fun h => (HS.out.1.vw k hkK).lt h
              have mk : bM k ≤ 1048576 := by omega
              go_wp2_with fail
              refine (copied_any w2 (BA k) (bB k) (bO k) (bM k) (bC k) _ V2 (S2.nil k hkK) (by omega)).mono ?_
              rintro _ w3 ⟨gg, cg, rfl, own3, hcap, hgB, hgl, hb3⟩
              have f3 := HR2.out.1.step hb3
              have y0 := f3.rs.cell u4
              simp only [PV] at y0
              have pu := (HR2.out.1.st u u4).lt
              have lou := HR2.out.1.lo
              have pfu := HR2.out.1.pf u u4
              have lN := HR2.out.1.len u u4
              have row3 : ∀ j, j < bM k + 2 → w3.cell? ⟨gg, j, none⟩ = some (.int .u8 (rm (bM k) (fun t => (BY k t : Int)) j)) := fun j hj => by
                rw [own3.cellAt j (by omega)]
                simp [vals, hj]
              have V3 : View w3 (some ⟨gg, 0, none⟩) gg 0 (bM k) (fun t => (BY k t : Int)) := ⟨fun _ => rfl, fun i hi => by rw [Nat.zero_add, row3 i (by omega), rm_low hi], fun i hi => by have := HS.out.1.bd k i; omega, by omega⟩
              have R3 : ∃ f, w3.rowIs gg 5 cg f := own_row own3
              have H3 : Hid (F4 w w3 gs (tot bM k) M ∧ View w3 (some ⟨gg, 0, none⟩) gg 0 (bM k) (fun t => (BY k t : Int)) ∧ (∃ f, w3.rowIs gg 5 cg f) ∧ w3.cell? ⟨gg, bM k, none⟩ = some (.int .u8 90) ∧ w3.rowIs g7 48 4 (ov (Ki k) (Wi k) (Ti k) (.slice (BA k) (bM k) (bC k)))) :=
                ⟨f3, V3, R3, by rw [row3 (bM k) (by omega), rm_0], HR2.out.2.1.of_block (hb3.block _ HR2.out.2.1.lt)⟩
              have z2 := F7.out.2.2.2
              have HB3 : Hid (Below w2.heap.size w2 w3) := hb3
              clear own3 hb3 f3 row3 V3 R3 S2 V2 x0 x3
              have G3 := HS.out.2.1.below H3.out.1.below
              go_wp2_with fail
              refine (write_any w3 (M.P u) (M.N u) (M.X u) (H3.out.1.st u u4) _ gg 0 (bM k) cg (BY k) H3.out.2.1 (HS.out.1.bd k) (fun _ => by omega) (by omega) G3.roots G3.big (by omega) (by omega)).mono ?_
              rintro _ w4 ⟨rfl, hs4, st4⟩
              have s47 : w4.rowIs g7 48 4 (ov (Ki k) (Wi k) (Ti k) (.slice (BA k) (bM k) (bC k))) := hs4.row H3.out.2.2.2.2 (by have := F7.out.2.1 u u4; omega)
              have sc4 := HS.out.1.below (H3.out.1.below.trans (hs4.below (by omega) H3.out.1.below.size))
              have y3 : w4.cell? ⟨g7, 3, none⟩ = some (.slice (BA k) (bM k) (bC k)) := s47.cell (i := 3) (by omega)
              have y9 : w4.cell? ⟨gg, bM k, none⟩ = some (.int .u8 90) := (hs4.cell (q := ⟨gg, bM k, none⟩) hgl (by show gg ≠ M.P u; omega)).trans H3.out.2.2.2.1
              have VA : Hid (View w4 (some ⟨gg, 0, none⟩) gg 0 (bM k) (fun t => (BY k t : Int)) ∧ View w4 (BA k) (bB k) (bO k) (bM k) (fun t => (BY k t : Int))) := ⟨H3.out.2.1.save hs4 (fun _ => by omega), sc4.vw k hkK⟩
              have q1 : (bM k : Int) ≤ (cg : Int) := by omega
              have q2 : (0 : Int) ≤ (bM k : Int) := by omega
              have q3 : (bM k : Int) < (bM k : Int) + 2 := by omega
              have H4 : Hid (Save (M.P u) w3 w4 ∧ St w4 (M.P u) (M.N u + bM k) (cat (M.N u) (M.X u) (BY k)) ∧ w4.rowIs g7 48 4 (ov (Ki k) (Wi k) (Ti k) (.slice (BA k) (bM k) (bC k)))) := ⟨hs4, st4, s47⟩
              clear hs4 st4 s47 sc4 y0 G3
              go_wp2_with fail
              go_quiet (first | (go_at_call 20; refine Calls.quiet_of (same_yes _ (some ⟨gg, 0, none⟩) (BA k) gg 0 (bM k) _ (bB k) (bO k) _ _ (VA.out.1.drewN _) (VA.out.2.drewN _))))
              have H5 : Hid (Save (M.P u) w3 (w4.drewN nq) ∧ St (w4.drewN nq) (M.P u) (M.N u + bM k) (cat (M.N u) (M.X u) (BY k)) ∧ (w4.drewN nq).rowIs g7 48 4 (ov (Ki k) (Wi k) (Ti k) (.slice (BA k) (bM k) (bC k)))) := ⟨H4.out.1.drewN nq, H4.out.2.1.of_block rfl, H4.out.2.2.of_block rfl⟩
              obtain ⟨w5, hw5⟩ : ∃ x, x = w4.drewN nq := ⟨_, rfl⟩
              rw [← hw5] at H5 ⊢
              have r5 : ∃ f, w5.rowIs gg 5 cg f := by
                obtain ⟨f, hf⟩ := H3.out.2.2.1
                exact ⟨f, H5.out.1.row hf (by omega)⟩
              have HR5 : Hid (∃ f, w5.rowIs gg 5 cg f) := r5
              clear hw5 H4 VA y3 y9 r5
              go_wp2_with fail
              go_loopg [11] (bM k + 2) (fun g i wr => ∃ t : Nat, t ≤ bM k + 2 ∧ g = bM k + 2 - t ∧ i = .int .i64 t ∧ Save gg w5 wr ∧ ∃ f, wr.rowIs gg 5 cg f)
              case atStart => exact ⟨0, by omega, rfl, rfl, Save.refl _ _, HR5.out⟩
              case round =>
                obtain ⟨t, ht, rfl, rfl, hsv, f, hf⟩ := hrel
                clear HR5
                by_cases htm : t < bM k + 2
                · have cc := hf.cell (i := t) (by omega)
                  have fz := hf.frozen t
                  have HN : Hid (Save gg w5 (wr.setCell ⟨gg, t, none⟩ (.int .u8 238)) ∧ ∃ f, (wr.setCell ⟨gg, t, none⟩ (.int .u8 238)).rowIs gg 5 cg f) := ⟨hsv.setCell t _, _, hf.set t _⟩
                  have i1 : (t : Int) < (bM k : Int) + 2 := by omega
                  clear hsv hf
                  go_wp2_with fail
                  clear cc fz i1
                  go_roundg (bM k + 2 - (t + 1))
                  case measure => omega
                  case rel => exact ⟨t + 1, by omega, rfl, by go_num, HN.out⟩
                · have H6 : Hid (Save gg w5 wr) := hsv
                  have i1 : ¬ (t : Int) < (bM k : Int) + 2 := by omega
                  clear hsv hf
                  go_wp2_with fail
                  have r7 := H6.out.row H5.out.2.2 (show g7 ≠ gg by omega)
                  have y3 : wr.cell? ⟨g7, 3, none⟩ = some (.slice (BA k) (bM k) (bC k)) := r7.cell (i := 3) (by omega)
                  have lrb := HR2.out.1.rb.lt
                  have rbw := H6.out.row (H5.out.1.row H3.out.1.rb (show gs + 1 ≠ M.P u by omega)) (show gs + 1 ≠ gg by omega)
                  have y1 : wr.cell? ⟨gs + 1, u, none⟩ = some (.slice (M.A u) (M.N u) (M.C u)) := rbw.cell u4
                  have y2 := rbw.frozen u
                  have Vu : View wr (M.A u) (M.B u) (M.O u) (M.N u) (fun i => (M.X u i : Int)) := ((H3.out.1.vw u u4).save H5.out.1 (fun h0 => (HR2.out.1.vb u u4 h0).2 u u4)).save H6.out (fun h0 => by have := (HR2.out.1.vw u u4).lt h0; omega)
                  have z3 := H3.out.1.below.size
                  have z5 := H5.out.1.size
                  have blw : Below w.heap.size w wr := (H3.out.1.below.trans (H5.out.1.below (by omega) (by omega))).trans (H6.out.below (by omega) (by omega))
                  have HW : Hid (View wr (M.A u) (M.B u) (M.O u) (M.N u) (fun i => (M.X u i : Int)) ∧ Scr wr (some ⟨pb, po, none⟩) pb po K Ki Wi Ti BA bB bO bM bC BY ∧ wr.rowIs g7 48 4 (ov (Ki k) (Wi k) (Ti k) (.slice (BA k) (bM k) (bC k))) ∧ wr.rowIs (gs + 1) 46 4 (SV M)) := ⟨Vu, HS.out.1.below blw, r7, rbw⟩
                  have bW : Below wr.heap.size wr (wr.drew.alloc (.cells #[] 5)) := ((Below.refl _ wr).drew).alloc (by simp) _
                  have HBW : Hid (Below wr.heap.size wr (wr.drew.alloc (.cells #[] 5))) := bW
                  have ownz := World.ownsRow_lit (base := wr.drew.heap.size) (e := 5) (size := 1) wr.drew #[] 0 (Nat.le_refl _) (by decide) rfl
                  have HVu : Hid (View (wr.drew.alloc (.cells #[] 5)) (M.A u) (M.B u) (M.O u) (M.N u) (fun i => (M.X u i : Int))) := Vu.below bW
                  have r0 : wr.drew.cell? ⟨g7, 3, none⟩ = some (.slice (BA k) (bM k) (bC k)) := y3
                  have rA : ∀ o, (wr.drew.alloc o).cell? ⟨g7, 3, none⟩ = some (.slice (BA k) (bM k) (bC k)) := fun o => ((((Below.refl wr.heap.size wr).drew).alloc (by simp) o).cell (p := ⟨g7, 3, none⟩) r7.lt).trans y3
                  have q0 : wr.drew.cell? ⟨gs + 1, u, none⟩ = some (.slice (M.A u) (M.N u) (M.C u)) := y1
                  have qA : ∀ o, (wr.drew.alloc o).cell? ⟨gs + 1, u, none⟩ = some (.slice (M.A u) (M.N u) (M.C u)) := fun o => ((((Below.refl wr.heap.size wr).drew).alloc (by simp) o).cell (p := ⟨gs + 1, u, none⟩) rbw.lt).trans y1
                  have rB : ∀ o, (wr.alloc o).cell? ⟨g7, 3, none⟩ = some (.slice (BA k) (bM k) (bC k)) := fun o => ((((Below.refl wr.heap.size wr)).alloc (by simp) o).cell (p := ⟨g7, 3, none⟩) r7.lt).trans y3
                  have qB : ∀ o, (wr.alloc o).cell? ⟨gs + 1, u, none⟩ = some (.slice (M.A u) (M.N u) (M.C u)) := fun o => ((((Below.refl wr.heap.size wr)).alloc (by simp) o).cell (p := ⟨gs + 1, u, none⟩) rbw.lt).trans y1
                  have nlu := HR2.out.1.nil u u4
                  have nlk := HS.out.1.nil k hkK
                  have i0 : (0 : Int) ≤ (u : Int) := by omega
                  have i4 : (u : Int) < 4 := by omega
                  have lrw : gs + 1 < wr.heap.size := rbw.lt
                  have nlr : ¬ wr.heap.size ≤ gs + 1 := by omega
                  have nlr2 : gs + 1 ≠ wr.heap.size := by omega
                  clear y2 r7 rbw Vu blw bW
                  go_region_law
                    (first | (refine step_append_bytes (by rfl) (.tmp 93) (.tmp 96) (by rfl) wr.drew.heap.size _ 0 [] (by rfl) ownz (M.A u) (M.B u) (M.O u) (M.N u) (M.C u) _ (by rfl) HVu.out nlu (by omega) (by simp) ?_; intro v9 w9 own9 gr9 nn9; have b9 : Below wr.heap.size wr w9 := HBW.out.trans (grown_below gr9 ownz (Nat.le_refl _) (by simp)); replace own9 : w9.ownsRow wr.drew.heap.size 5 1 v9 (M.N u) (vals (fun i => (M.X u i : Int)) (M.N u)) := (by simpa using own9); obtain ⟨g9, c9, rfl, hc9, hB9, hl9⟩ := own_some own9 (fun e => by have := nn9 e; simp at this); have r9 : w9.cell? ⟨g7, 3, none⟩ = some (.slice (BA k) (bM k) (bC k)) := (HW.out.2.2.1.of_block (b9.block _ HW.out.2.2.1.lt)).cell (i := 3) (by omega); have H9 : Hid (w9.ownsRow wr.drew.heap.size 5 1 (.slice (some ⟨g9, 0, none⟩) (M.N u) c9) (M.N u) (vals (fun i => (M.X u i : Int)) (M.N u)) ∧ Below wr.heap.size wr w9 ∧ View w9 (BA k) (bB k) (bO k) (bM k) (fun j => (BY k j : Int))) := ⟨own9, b9, (HW.out.2.1.below b9).vw k hkK⟩; clear own9 gr9 nn9 b9 hc9 hB9 hl9) | (refine step_append_bytes (by rfl) (.tmp 97) (.tmp 99) (by rfl) wr.drew.heap.size _ (M.N u) _ (by rfl) H9.out.1 (BA k) (bB k) (bO k) (bM k) (bC k) _ (by rfl) H9.out.2.2 nlk (by omega) (by have := H9.out.2.1.size; simpa using this) ?_; intro v10 w10 own10 gr10 nn10; obtain ⟨g10, c10, rfl, hc10, hB10, hl10⟩ := own_some own10 (fun e => by have := nn10 e; simp at this); have b10 : Below wr.heap.size wr w10 := H9.out.2.1.trans (grown_below gr10 H9.out.1 (Nat.le_of_eq (by simp)) H9.out.2.1.size); have r10 : w10.cell? ⟨g7, 3, none⟩ = some (.slice (BA k) (bM k) (bC k)) := (HW.out.2.2.1.of_block (b10.block _ HW.out.2.2.1.lt)).cell (i := 3) (by omega); have rb10 := HW.out.2.2.2.of_block (b10.block _ HW.out.2.2.2.lt); have q10 : w10.cell? ⟨gs + 1, u, none⟩ = some (SV M u) := rb10.cell u4; have f10 := rb10.frozen u; have H10 : Hid (w10.ownsRow wr.drew.heap.size 5 1 (.slice (some ⟨g10, 0, none⟩) (M.N u + bM k) c10) (M.N u + bM k) (vals (fun i => (M.X u i : Int)) (M.N u) ++ vals (fun j => (BY k j : Int)) (bM k)) ∧ Below wr.heap.size wr w10 ∧ wr.drew.heap.size ≤ g10) := ⟨own10, b10, hB10⟩; have r11 : (w10.setCell ⟨gs + 1, u, none⟩ (.slice (some ⟨g10, 0, none⟩) (M.N u + bM k) c10)).cell? ⟨g7, 3, none⟩ = some (.slice (BA k) (bM k) (bC k)) := (((Save.refl (gs + 1) w10).setCell u _).cell (q := ⟨g7, 3, none⟩) (World.block_lt_of_cell? _ _ r10) (by show g7 ≠ gs + 1; omega)).trans r10; clear own10 gr10 nn10 b10 rb10))
                  all_goals (
                    have HX : Hid (∃ M', F4 w (w10.setCell ⟨gs + 1, u, none⟩ (.slice (some ⟨g10, 0, none⟩) (M.N u + bM k) c10)) gs (tot bM (k + 1)) M' ∧ (w10.setCell ⟨gs + 1, u, none⟩ (.slice (some ⟨g10, 0, none⟩) (M.N u + bM k) c10)).rowIs g7 48 4 (ov (Ki k) (Wi k) (Ti k) (.slice (BA k) (bM k) (bC k)))) := write_done HR2.out.1 u4 HB3.out H5.out.1 H5.out.2.1 H6.out (by omega) H10.out.2.1 H10.out.1 (by omega) H10.out.2.2 HW.out.2.2.1 (by omega) (HS.out.1.bd k) rfl
                    clear r9 r10 r11 rA qA rB qB r0 q0 q10 f10 y1 y3 nlu nlk i0 i4 lrw nlr nlr2 ownz HVu HBW HW H9 H10 H6 H5 H3 HB3 HR2
                    revert HX
                    generalize w10.setCell ⟨gs + 1, u, none⟩ (.slice (some ⟨g10, 0, none⟩) (M.N u + bM k) c10) = W4
                    intro HX
                    obtain ⟨M', hM', h7'⟩ := HX.out
                    have s1 := hM'.rs.cell u4
                    have s2 := hM'.rb.cell u4
                    have s3 : W4.cell? ⟨g7, 0, none⟩ = some (.int .i64 (Ki k)) := h7'.cell (i := 0) (by omega)
                    have HM : Hid (F4 w W4 gs (tot bM (k + 1)) M' ∧ Ground W4) := ⟨hM', HS.out.2.1.below hM'.below⟩
                    simp only [PV, SV] at s1 s2
                    clear HX hM' h7' F7
                    go_wp2_with fail
                    refine (len_any _ (M'.P u) (M'.N u) _ (HM.out.1.st u u4)).mono ?_
                    rintro _ w8 ⟨rfl, e8⟩
                    subst e8
                    go_wp2_with fail
                    clear s1 s2 s3
                    go_roundg (K - (k + 1))
                    case measure => omega
                    case rel => exact ⟨k + 1, M', by omega, rfl, by go_num, HM.out.1⟩)
            · by_cases k5 : Ki k = 5
              · have n1 : (Ki k == 1) = false := by rw [k5]; rfl
                have n2 : (Ki k == 2) = false := by rw [k5]; rfl
                have n5 : (Ki k == 5) = true := by rw [beq_iff_eq]; exact k5
                have n3 : (Ki k == 3) = false := by rw [k5]; rfl
                clear k1 k2 k5
                have x0 : w2.cell? ⟨g7, 0, none⟩ = some (.int .i64 (Ki k)) := HR2.out.2.1.cell (i := 0) (by omega)
                have x2 : w2.cell? ⟨g7, 2, none⟩ = some (.int .i64 (Ti k)) := HR2.out.2.1.cell (i := 2) (by omega)
                obtain ⟨v, hv⟩ : ∃ v : Nat, Ti k % 4 = (v : Int) := ⟨(Ti k % 4).toNat, by omega⟩
                have v4 : v < 4 := by omega
                have r2 := fun w0 => rest_any w0 (Ti k) 4 (by decide) (by decide)
                rw [hv] at r2
                clear hv
                go_wp2_with fail
                refine (r2 _).mono ?_
                rintro _ wx ⟨rfl, ex⟩
                subst ex
                clear r2 x2
                have y0 := HR2.out.1.rs.cell u4
                simp only [PV] at y0
                go_wp2_with fail
                refine (copy_any _ (M.P u) (M.N u) (M.X u) (HR2.out.1.st u u4)).mono ?_
                rintro _ w3 ⟨rfl, st3, hb3⟩
                have f3 := HR2.out.1.step hb3
                have y1 := f3.rs.cell v4
                have y2 := f3.rs.frozen v
                have rb5 := ((Save.refl gs w3).setCell v (.pointer (some ⟨wx.heap.size, 0, none⟩))).row f3.rb (by omega)
                have y5 : (w3.setCell ⟨gs, v, none⟩ (.pointer (some ⟨wx.heap.size, 0, none⟩))).cell? ⟨gs + 1, u, none⟩ = some (.slice (M.A u) (M.N u) (M.C u)) := rb5.cell u4
                have y7 : (w3.setCell ⟨gs, v, none⟩ (.pointer (some ⟨wx.heap.size, 0, none⟩))).cell? ⟨gs + 1, v, none⟩ = some (SV M v) := rb5.cell v4
                have y6 : (w3.setCell ⟨gs, v, none⟩ (.pointer (some ⟨wx.heap.size, 0, none⟩))).frozen? ⟨gs + 1, v, none⟩ = false := rb5.frozen v
                have HZ : Hid (∃ M', F4 w ((w3.setCell ⟨gs, v, none⟩ (.pointer (some ⟨wx.heap.size, 0, none⟩))).setCell ⟨gs + 1, v, none⟩ (.slice (M.A u) (M.N u) (M.C u))) gs (tot bM (k + 1)) M' ∧ ((w3.setCell ⟨gs, v, none⟩ (.pointer (some ⟨wx.heap.size, 0, none⟩))).setCell ⟨gs + 1, v, none⟩ (.slice (M.A u) (M.N u) (M.C u))).rowIs g7 48 4 (ov (Ki k) (Wi k) (Ti k) (.slice (BA k) (bM k) (bC k)))) := by
                  have lu := HR2.out.1.len u u4
                  refine ⟨_, HR2.out.1.set2 v4 hb3 st3 (b := M.B u) (o := M.O u) (f3.vw u u4) (fun h => ⟨(HR2.out.1.vb u u4 h).1, (HR2.out.1.vw u u4).lt h, (HR2.out.1.vb u u4 h).2⟩) (HR2.out.1.nil u u4) (by show M.N u ≤ tot bM k + bM k; omega) (by show tot bM k ≤ tot bM k + bM k; omega), row_two (HR2.out.2.1.of_block (hb3.block _ HR2.out.2.1.lt)) (by have := F7.out.1; omega) (by have := F7.out.1; omega)⟩
                clear st3 hb3 f3 rb5 x0 y0
                go_wp2_with (refine wpList_stop 45 (.tmp 3) (.tmp 118) (by rfl) ?_)
                clear y1 y2 y5 y6 y7 HR2 F7
                revert HZ
                generalize (w3.setCell ⟨gs, v, none⟩ (.pointer (some ⟨wx.heap.size, 0, none⟩))).setCell ⟨gs + 1, v, none⟩ (.slice (M.A u) (M.N u) (M.C u)) = W4
                intro HX
                intro _

                obtain ⟨M', hM', h7'⟩ := HX.out
                have s1 := hM'.rs.cell u4
                have s2 := hM'.rb.cell u4
                have s3 : W4.cell? ⟨g7, 0, none⟩ = some (.int .i64 (Ki k)) := h7'.cell (i := 0) (by omega)
                have HM : Hid (F4 w W4 gs (tot bM (k + 1)) M' ∧ Ground W4) := ⟨hM', HS.out.2.1.below hM'.below⟩
                simp only [PV, SV] at s1 s2
                clear HX hM' h7'
                go_wp2_with fail
                refine (len_any _ (M'.P u) (M'.N u) _ (HM.out.1.st u u4)).mono ?_
                rintro _ w8 ⟨rfl, e8⟩
                subst e8
                go_wp2_with fail
                clear s1 s2 s3
                go_roundg (K - (k + 1))
                case measure => omega
                case rel => exact ⟨k + 1, M', by omega, rfl, by go_num, HM.out.1⟩
              · have n1 : (Ki k == 1) = false := by rw [beq_eq_false_iff_ne]; exact k1
                have n2 : (Ki k == 2) = false := by rw [beq_eq_false_iff_ne]; exact k2
                have n5 : (Ki k == 5) = false := by rw [beq_eq_false_iff_ne]; exact k5
                have HX : Hid (∃ M', F4 w w2 gs (tot bM (k + 1)) M' ∧ w2.rowIs g7 48 4 (ov (Ki k) (Wi k) (Ti k) (.slice (BA k) (bM k) (bC k)))) := ⟨M, HR2.out.1.more (by show tot bM k ≤ tot bM k + bM k; omega), HR2.out.2.1⟩
                obtain ⟨W4, hW4⟩ : ∃ x, x = w2 := ⟨_, rfl⟩
                subst hW4
                have x0 : W4.cell? ⟨g7, 0, none⟩ = some (.int .i64 (Ki k)) := HR2.out.2.1.cell (i := 0) (by omega)
                clear HR2 F7
                by_cases k3 : Ki k = 3
                · have n3 : (Ki k == 3) = true := by rw [beq_iff_eq]; exact k3
                  clear k1 k2 k5 k3
                  obtain ⟨M', hM', h7'⟩ := HX.out
                  have s1 := hM'.rs.cell u4
                  have s2 := hM'.rb.cell u4
                  have s3 := x0
                  have HM : Hid (F4 w W4 gs (tot bM (k + 1)) M' ∧ Ground W4) := ⟨hM', HS.out.2.1.below hM'.below⟩
                  have lN : M'.N u ≤ 1048576 := Nat.le_trans (hM'.len u u4) (Nat.le_trans kK hT)
                  simp only [PV, SV] at s1 s2
                  clear HX hM' h7'
                  go_wp2_with fail
                  refine (len_any _ (M'.P u) (M'.N u) _ (HM.out.1.st u u4)).mono ?_
                  rintro _ w8 ⟨rfl, e8⟩
                  subst e8
                  go_wp2_with fail
                  refine (sum_any w8 (M'.P u) (M'.N u) (M'.X u) (HM.out.1.st u u4) HM.out.2.roots HM.out.2.big (by omega)).mono ?_
                  rintro _ w9 ⟨rfl, hb9⟩
                  obtain ⟨D, hD⟩ : ∃ D, D = digest (M'.N u) (M'.X u) := ⟨_, rfl⟩
                  rw [← hD]
                  have HD : Hid (D = digest (M'.N u) (M'.X u)) := hD
                  have hl := hash_laid w9 D
                  have b910 := ch hb9 hl.2
                  have HT : Hid (HashAt ((w9.alloc (.cells Z32 26)).setRow w9.heap.size (hashA D)) w9.heap.size D ∧ F4 w ((w9.alloc (.cells Z32 26)).setRow w9.heap.size (hashA D)) gs (tot bM (k + 1)) M') := ⟨hl.1, HM.out.1.step b910⟩
                  clear hD hb9 hl b910 s1 s2 s3 x0 HM
                  go_wp2_with (refine wpList_store_row (by rfl) 26 (.tmp 14) (.tmp 138) (by rfl) w9.heap.size (hashA D) (by rfl) (by rfl) 26 Z32 (heap_alloc_new _ _) (hashA_info _) (Z32_hash _) (hashA_one _) ?_; change wpList _ _ _ _ _ ((w9.alloc (.cells Z32 26)).setRow w9.heap.size (hashA D)); revert HT; generalize (w9.alloc (.cells Z32 26)).setRow w9.heap.size (hashA D) = w10; intro HT)
                  have z10 := HT.out.2.below.size
                  have c2 := HT.out.2.rb.cell u4
                  simp only [SV] at c2
                  have sB := fun (d : Nat) (os : Array Obj) => cell_regrown c2 d os
                  have k18 := fun (d : Nat) (os : Array Obj) => Calls.regrown_of (w := w10) (d := d) (os := os) (rsum_any (grow (redrawn w10 d) os) (M'.A u) (M'.B u) (M'.O u) (M'.N u) (M'.C u) (M'.X u) ((HT.out.2.vw u u4).below (below_regrown w10 d os)) (HT.out.2.st u u4).bd (HT.out.2.nil u u4) (by omega) ((HS.out.2.2.below HT.out.2.below hw).below (below_regrown w10 d os) (by omega)) (by have := (below_regrown w10 d os).size; omega))
                  rw [← HD.out] at k18
                  have hc : ∀ w', (∃ r : Regrown, w' = grow (redrawn w10 r.d) r.os) → ∀ j, j < (hashA D).size → w'.cell? ⟨w9.heap.size, j, none⟩ = (hashA D)[j]? := by
                    rintro _ ⟨r, rfl⟩
                    exact (HT.out.1.below (below_regrown w10 r.d r.os)).cells
                  have eqh := fun w0 => eq_hashA w0 D
                  refine wp_region_quiet_below (by kernel_rfl) (by kernel_rfl) ?_
                  refine quiet_load (by rfl) 26 (.tmp 14) (by rfl) w9.heap.size (by rfl) (hashA D) _ hc Tryd.underlying26 rfl (hashA_info _) ?_
                  clear hc
                  repeat (first
                    | go_big_quiet_step (first | (go_at_call 18; exact k18 _ _))
                    | quiet_step (first | (go_at_call 18; exact k18 _ _)))
                  refine wpQuiet_nil ?_
                  intro w11 hw'
                  obtain ⟨⟨dq, osq⟩, hw''⟩ := hw'
                  have b11 := below_regrown w10 dq osq
                  have HF : Hid (F4 w w11 gs (tot bM (k + 1)) M') := by rw [hw'']; exact HT.out.2.step b11
                  clear hw'' b11 k18 sB c2 eqh HT HD z10
                  go_wp2_with fail
                  go_roundg (K - (k + 1))
                  case measure => omega
                  case rel => exact ⟨k + 1, M', by omega, rfl, by go_num, HF.out⟩
                · have n3 : (Ki k == 3) = false := by rw [beq_eq_false_iff_ne]; exact k3
                  clear k1 k2 k5 k3
                  obtain ⟨M', hM', h7'⟩ := HX.out
                  have s1 := hM'.rs.cell u4
                  have s2 := hM'.rb.cell u4
                  have s3 := x0
                  have HM : Hid (F4 w W4 gs (tot bM (k + 1)) M' ∧ Ground W4) := ⟨hM', HS.out.2.1.below hM'.below⟩
                  have lN : M'.N u ≤ 1048576 := Nat.le_trans (hM'.len u u4) (Nat.le_trans kK hT)
                  simp only [PV, SV] at s1 s2
                  clear HX hM' h7'
                  go_wp2_with fail
                  refine (len_any _ (M'.P u) (M'.N u) _ (HM.out.1.st u u4)).mono ?_
                  rintro _ w8 ⟨rfl, e8⟩
                  subst e8
                  go_wp2_with fail
                  clear s1 s2 s3
                  go_roundg (K - (k + 1))
                  case measure => omega
                  case rel => exact ⟨k + 1, M', by omega, rfl, by go_num, HM.out.1⟩
        · have HR : Hid (F4 w wr gs (tot bM k) M) := hR
          have kk : tot bM k ≤ 1048576 := Nat.le_trans (tot_mono bM hk) hT
          have kK2 : K ≤ k := by omega
          clear hR
          go_wp2_with fail
          go_loopg [15] 4 (fun g i wr => ∃ t : Nat, t ≤ 4 ∧ g = 4 - t ∧ i = .int .i64 t ∧ F4 w wr gs (tot bM k) M)
          case atStart => exact ⟨0, by omega, rfl, rfl, HR.out⟩
          case round =>
            obtain ⟨t, ht, rfl, rfl, hF⟩ := hrel
            clear HR
            by_cases t4 : t < 4
            · have s1 := hF.rs.cell t4
              have s2 := hF.rb.cell t4
              simp only [PV, SV] at s1 s2
              have HM : Hid (F4 w wr gs (tot bM k) M ∧ Ground wr) := ⟨hF, HS.out.2.1.below hF.below⟩
              have lN := hF.len t t4
              clear hF
              go_wp2_with fail
              refine (sum_any wr (M.P t) (M.N t) (M.X t) (HM.out.1.st t t4) HM.out.2.roots HM.out.2.big (by omega)).mono ?_
              rintro _ w9 ⟨rfl, hb9⟩
              obtain ⟨D, hD⟩ : ∃ D, D = digest (M.N t) (M.X t) := ⟨_, rfl⟩
              rw [← hD]
              have HD : Hid (D = digest (M.N t) (M.X t)) := hD
              have hl := hash_laid w9 D
              have b910 := ch hb9 hl.2
              have HT : Hid (HashAt ((w9.alloc (.cells Z32 26)).setRow w9.heap.size (hashA D)) w9.heap.size D ∧ F4 w ((w9.alloc (.cells Z32 26)).setRow w9.heap.size (hashA D)) gs (tot bM k) M) := ⟨hl.1, HM.out.1.step b910⟩
              clear hD hb9 hl b910 s1 s2 HM
              go_wp2_with (refine wpList_store_row (by rfl) 26 (.tmp 16) (.tmp 156) (by rfl) w9.heap.size (hashA D) (by rfl) (by rfl) 26 Z32 (heap_alloc_new _ _) (hashA_info _) (Z32_hash _) (hashA_one _) ?_; change wpList _ _ _ _ _ ((w9.alloc (.cells Z32 26)).setRow w9.heap.size (hashA D)); revert HT; generalize (w9.alloc (.cells Z32 26)).setRow w9.heap.size (hashA D) = w10; intro HT)
              have z10 := HT.out.2.below.size
              have c2 := HT.out.2.rb.cell t4
              simp only [SV] at c2
              have sB := fun (d : Nat) (os : Array Obj) => cell_regrown c2 d os
              have k18 := fun (d : Nat) (os : Array Obj) => Calls.regrown_of (w := w10) (d := d) (os := os) (rsum_any (grow (redrawn w10 d) os) (M.A t) (M.B t) (M.O t) (M.N t) (M.C t) (M.X t) ((HT.out.2.vw t t4).below (below_regrown w10 d os)) (HT.out.2.st t t4).bd (HT.out.2.nil t t4) (by omega) ((HS.out.2.2.below HT.out.2.below hw).below (below_regrown w10 d os) (by omega)) (by have := (below_regrown w10 d os).size; omega))
              rw [← HD.out] at k18
              have hc : ∀ w', (∃ r : Regrown, w' = grow (redrawn w10 r.d) r.os) → ∀ j, j < (hashA D).size → w'.cell? ⟨w9.heap.size, j, none⟩ = (hashA D)[j]? := by
                rintro _ ⟨r, rfl⟩
                exact (HT.out.1.below (below_regrown w10 r.d r.os)).cells
              have eqh := fun w0 => eq_hashA w0 D
              refine wp_region_quiet_below (by kernel_rfl) (by kernel_rfl) ?_
              refine quiet_load (by rfl) 26 (.tmp 16) (by rfl) w9.heap.size (by rfl) (hashA D) _ hc Tryd.underlying26 rfl (hashA_info _) ?_
              clear hc
              repeat (first
                | go_big_quiet_step (first | (go_at_call 18; exact k18 _ _))
                | quiet_step (first | (go_at_call 18; exact k18 _ _)))
              refine wpQuiet_nil ?_
              intro w11 hw'
              obtain ⟨⟨dq, osq⟩, hw''⟩ := hw'
              have b11 := below_regrown w10 dq osq
              have HF : Hid (F4 w w11 gs (tot bM k) M) := by rw [hw'']; exact HT.out.2.step b11
              clear hw'' b11 k18 sB c2 eqh HT HD z10
              go_wp2_with fail
              go_roundg (4 - (t + 1))
              case measure => omega
              case rel => exact ⟨t + 1, by omega, rfl, by go_num, HF.out⟩
            · have HE : Hid (Below w.heap.size w wr) := hF.below
              have t5 : 4 ≤ t := by omega
              clear hF
              go_wp2_with fail
              go_ret
              exact ⟨rfl, HE.out⟩
end Go.Proofs.YtdhenfepfkmhhaaDoor
