import Derived.Test.YtadcbhjmbgenbaaRwe
import Derived.Defers
import Derived.Recover
import Derived.Laws.Pointers
import Derived.Test.YtadcbhjmbgenbaaUpEe
/-
  Decode: what is caught.
-/
namespace Go.Proofs.Ytadcbhjmbgenbaa
open Go.RowKit

theorem infoF2 : (Try.prog.info? 82).map (·.size) = some 2 := by kernel_rfl

theorem typeAssertF (v : Value) (w : World) : (Instr.typeAssert (.iface 82 v) 20 82 true).run Try.prog w = .ok (.tuple #[v, .bool true]) w := by
  simp [Instr.typeAssert, run_underlying Try.underlying82, go_sem, Result.andThen]

set_option maxRecDepth 100000 in
set_option maxHeartbeats 1600000 in
theorem faultOf_any (w : World) (p c : Nat) : Calls Try.prog 51 #[.iface 82 (.agg #[.int .i64 p, .int .i64 c])] w fun e w' => e = .returned (.agg #[.int .i64 p, .int .i64 c]) ∧ Below w.heap.size w w' := by
  have hta := typeAssertF
  go_enter Try.func51, Try.ntmps51
  go_wp2_with fail
  refine bodyPost_ret (v := .agg #[.int .i64 p, .int .i64 c]) ?_ rfl ⟨rfl, ((below_alloc _ _).alloc (by simp) _)⟩
  exact results_cell_row rfl _ _ w.heap.size 82 #[.int .i64 p, .int .i64 c] (0, 0) _ rfl ((heap_alloc_old _ _ (by simp)).trans (heap_alloc_new _ _)) Try.underlying82 rfl infoF2

/-- the three results' variables -/
structure Rs (w : World) (g : Nat) (x y z : Value) (pl er : Int) : Prop where
  item : Bx w g 62 x y z
  place : w.heap[g + 1]? = some (.cells #[.int .i64 pl] 3 (0, 0))
  errno : w.heap[g + 2]? = some (.cells #[.int .i64 er] 30 (0, 0))

theorem one_set {w : World} {k : Nat} {v v' : Value} {t : TypeId} (h : w.heap[k]? = some (.cells #[v] t (0, 0))) : (w.setCell ⟨k, 0, none⟩ v').heap[k]? = some (.cells #[v'] t (0, 0)) := by
  simp only [World.setCell, Array.getElem?_modify, if_true]
  rw [h]
  rfl
theorem Rs.write {w : World} {g : Nat} {x y z x' y' z' : Value} {pl er pl' er' : Int} (h : Rs w g x y z pl er) : Rs (((set3 w g x' y' z').setCell ⟨g + 1, 0, none⟩ (.int .i64 pl')).setCell ⟨g + 2, 0, none⟩ (.int .i64 er')) g x' y' z' pl' er' ∧ Below g w (((set3 w g x' y' z').setCell ⟨g + 1, 0, none⟩ (.int .i64 pl')).setCell ⟨g + 2, 0, none⟩ (.int .i64 er')) := by
  have t1 := set3_turn w g x' y' z'
  have h2 : g + 2 < w.heap.size := (Array.getElem?_eq_some_iff.1 h.errno).1
  refine ⟨⟨?_, ?_, ?_⟩, ?_⟩
  · refine (h.item.set3).keep ?_
    rw [Below.heap_setCell _ _ _ _ (by show g ≠ g + 2; omega), Below.heap_setCell _ _ _ _ (by show g ≠ g + 1; omega)]
  · rw [Below.heap_setCell _ _ _ _ (by show g + 1 ≠ g + 2; omega)]
    exact one_set ((t1.block _ (by omega) (by omega)).trans h.place)
  · refine one_set (v := .int .i64 er) ?_
    rw [Below.heap_setCell _ _ _ _ (by show g + 2 ≠ g + 1; omega), t1.block _ (by omega) (by omega)]
    exact h.errno
  · exact ((t1.below (B := g) (fun i q => by omega) (by omega)).setCell (by show g ≤ g + 1; omega) _).setCell (by show g ≤ g + 2; omega) _

set_option maxRecDepth 100000 in
set_option maxHeartbeats 1600000 in
theorem catch_panicking (g p c : Nat) (x y z : Value) (pl er : Int) (older : List PanicEntry) (w : World) (h : Rs w g x y z pl er) :
    CallsD Try.prog 50 #[.pointer (some ⟨g, 0, none⟩), .pointer (some ⟨g + 1, 0, none⟩), .pointer (some ⟨g + 2, 0, none⟩)] (.panicking (flt p c :: older)) w fun e u' w' =>
      e = .returned (.tuple #[]) ∧ u' = .panicking ({ flt p c with recovered := true } :: older) ∧ Rs w' g (.bool false) (.slice none 0 0) (.slice none 0 0) p c ∧ Below g w w' := by
  have KF := faultOf_any w p c
  refine callsD_of_wpS Try.func50 rfl fun c₀ cs hu => ?_
  apply wpS_seq
  apply wpS_region
  simp [wpOpsS, go_sem, recoverD, hu, flt, Try.ntmps50, Exit.thenS]
  refine wpS_of_wp ?_
  have e12 : Array.replicate 12 undef = #[undef, undef, undef, undef, undef, undef, undef, undef, undef, undef, undef, undef] := rfl
  simp only [e12, List.setIfInBounds_toArray, List.set_cons_zero, List.set_cons_succ, List.append_toArray, List.cons_append, List.nil_append]
  clear e12
  go_wp2_with (go_at_call 51; refine KF.mono ?_; rintro e w1 ⟨rfl, hb1⟩)
  have z2 : g + 2 < w.heap.size := (Array.getElem?_eq_some_iff.1 h.errno).1
  obtain ⟨W, eW⟩ : ∃ W, W = w1.alloc (.cells #[.int .i64 p, .int .i64 c] 82) := ⟨_, rfl⟩
  have bW : Below w.heap.size w W := by rw [eW]; exact ch hb1 (below_alloc _ _)
  have hx : Bx W g 62 x y z := h.item.keep (bW.block _ (by omega))
  have hp := (bW.block (g + 1) (by omega)).trans h.place
  have he := (bW.block (g + 2) (by omega)).trans h.errno
  have hf : W.heap[w1.heap.size]? = some (.cells #[.int .i64 p, .int .i64 c] 82 (0, 0)) := by rw [eW]; exact heap_alloc_new _ _
  obtain ⟨x0, x1, x2, xf⟩ := hx.cells
  have xf0 := xf 0
  have xf1 := xf 1
  have xf2 := xf 2
  have p0 : W.cell? ⟨g + 1, 0, none⟩ = some (.int .i64 pl) := cell_of_row _ _ _ _ _ _ hp
  have e0 : W.cell? ⟨g + 2, 0, none⟩ = some (.int .i64 er) := cell_of_row _ _ _ _ _ _ he
  have f0 : W.cell? ⟨w1.heap.size, 0, none⟩ = some (.int .i64 p) := cell_of_row _ _ _ _ _ _ hf
  have f1 : W.cell? ⟨w1.heap.size, 1, none⟩ = some (.int .i64 c) := cell_of_row _ _ _ _ _ _ hf
  have fr : ∀ (k : Nat) (cs : Array Value) (t : TypeId), W.heap[k]? = some (.cells cs t (0, 0)) → W.frozen? ⟨k, 0, none⟩ = false := fun k cs t hk => by
    have r : W.rowIs k t cs.size (fun i => cs.getD i (.bool true)) := ⟨_, hk, rfl, fun i hi => by
      show _ = some (cs.getD i (.bool true))
      rw [Array.getD_eq_getD_getElem?, Array.getElem?_eq_getElem (by simpa using hi)]
      rfl⟩
    exact r.frozen 0
  have pf := fr _ _ _ hp
  have ef := fr _ _ _ he
  rw [← eW]
  have n1 : ¬ w1.heap.size = g := by have := hb1.size; omega
  have n2 : ¬ w1.heap.size = g + 1 := by have := hb1.size; omega
  have n3 : ¬ w1.heap.size = g + 2 := by have := hb1.size; omega
  have m1 : ¬ g = w1.heap.size := by have := hb1.size; omega
  have m2 : ¬ g + 1 = w1.heap.size := by have := hb1.size; omega
  have m3 : ¬ g + 2 = w1.heap.size := by have := hb1.size; omega
  have HH : Hid (Bx W g 62 x y z ∧ W.heap[g + 1]? = some (.cells #[.int .i64 pl] 3 (0, 0)) ∧ W.heap[g + 2]? = some (.cells #[.int .i64 er] 30 (0, 0)) ∧ Below w.heap.size w W ∧ g + 2 < w.heap.size) := ⟨hx, hp, he, bW, z2⟩
  clear hx hp he hf fr xf eW bW h KF hb1
  go_region_held3 (fun w' => w'.cell? ⟨w1.heap.size, 0, none⟩ = some (.int .i64 p) ∧ w'.cell? ⟨w1.heap.size, 1, none⟩ = some (.int .i64 c)) (first | go_keep | (constructor <;> simp_all)) (fail)
  have hR : Rs W g x y z pl er := ⟨HH.out.1, HH.out.2.1, HH.out.2.2.1⟩
  have hw := hR.write (x' := .bool false) (y' := .slice none 0 0) (z' := .slice none 0 0) (pl' := p) (er' := c)
  have hb : Below g w W := HH.out.2.2.2.1.mono (by have := HH.out.2.2.2.2; omega)
  exact ⟨rfl, _, rfl, .tuple #[], results_none rfl _ _ _, rfl, rfl, ⟨hw.1.item, hw.1.place, hw.1.errno⟩, (hb.trans hw.2).drew⟩

set_option maxRecDepth 100000 in
set_option maxHeartbeats 1600000 in
theorem catch_idle (g : Nat) (w : World) :
    CallsD Try.prog 50 #[.pointer (some ⟨g, 0, none⟩), .pointer (some ⟨g + 1, 0, none⟩), .pointer (some ⟨g + 2, 0, none⟩)] .returning w fun e u' w' => e = .returned (.tuple #[]) ∧ u' = .returning ∧ w' = w := by
  refine callsD_of_wpS Try.func50 rfl fun c₀ cs hu => ?_
  apply wpS_seq
  apply wpS_region
  simp [wpOpsS, go_sem, recoverD, hu, Try.ntmps50, Exit.thenS]
  refine wpS_of_wp ?_
  have e12 : Array.replicate 12 undef = #[undef, undef, undef, undef, undef, undef, undef, undef, undef, undef, undef, undef] := rfl
  simp only [e12, List.setIfInBounds_toArray, List.set_cons_zero, List.set_cons_succ, List.append_toArray, List.cons_append, List.nil_append]
  clear e12
  go_wp2_with fail
  cases c₀
  simp only at hu
  subst hu
  exact ⟨rfl, .returning, rfl, .tuple #[], results_none rfl _ _ _, rfl, rfl, rfl⟩
end Go.Proofs.Ytadcbhjmbgenbaa

/-
  path.Unpack of an odd form.
-/
namespace Go.Proofs.Ytadcbhjmbgenbaa
open Go.RowKit

set_option maxRecDepth 100000 in
set_option maxHeartbeats 1600000 in
theorem unpack_1 (w : World) (a : Option Addr) (b off c : Nat) (s : List Nat) (hv : Vw w a b off s) (hc : s.length ≤ c) (hp : IsF s) (ho : od s = 1) :
    Calls Try.prog 76 #[.slice a s.length c] w fun e w' => ∃ v, e = .returned (.tuple #[v, .bool (lf s), .int .i64 0]) ∧ Ans w w' v (upL s) := by
  have K := isForm_any w a b off c s hv
  rw [decide_eq_true hp] at K
  have K2 := plen_any w a b off c s hv hp.1
  have HB : Hid (∀ i, gd s i < 256) := fun i => gd_lt (vw_ok hv).2 i
  have HI : Hid (∀ x ∈ s, x < 256) := (vw_ok hv).2
  have hz : gd s 0 < 256 := HB.out 0
  have h64 := hp.2.1
  have hl : plen s ≤ 64 := hp.2.2.2
  have h0 := hp.1
  have ep : plen s = 2 * (s.length - 1) + 1 := by unfold plen; rw [ho]
  have HV : Hid (Vw w a b off s) := hv
  obtain rfl := hv.at_ h0
  have c0 : w.cell? ⟨b, off, none⟩ = some (.int .u8 ((gd s 0 : Nat) : Int)) := hv.cell 0 h0
  have hlt := hv.lt h0
  have HLF : Hid (lf s = decide (32 ≤ gd s 0)) := rfl
  have m16 := a16 (gd s 0) hz
  have eo : gd s 0 / 16 % 2 = 1 := ho
  rw [eo] at m16
  replace m16 : bits .and .u8 ((gd s 0 : Nat) : Int) 16 = 16 := m16
  have m32 := a32 (gd s 0) hz
  have HM : Hid (bits .and .u8 ((gd s 0 : Nat) : Int) 32 = ((32 * (gd s 0 / 32 % 2) : Nat) : Int)) := m32
  have HX0 : Hid (∀ y : Int, y = ((gd s 0 : Nat) : Int) % 16 → y = ((upY s 0 : Nat) : Int)) := fun y hy => by rw [hy, upY_zero ho]; omega
  obtain ⟨p, hpe⟩ : ∃ p, p = plen s := ⟨_, rfl⟩
  have HU : Hid (od s = 1 ∧ p = plen s) := ⟨ho, hpe⟩
  rw [← hpe] at hl K2 ep
  have l1 : p ≤ 2 * (s.length - 1) + 1 := by omega
  have l2 : 2 * (s.length - 1) + 1 ≤ p := by omega
  obtain ⟨n, en⟩ : ∃ n, n = s.length := ⟨_, rfl⟩
  obtain ⟨x, hx⟩ : ∃ x, x = gd s 0 := ⟨_, rfl⟩
  have HE : Hid (n = s.length) := en
  rw [← hx] at hz h64 c0 HLF m16 HM HX0
  rw [← en] at h0 l1 l2 K K2 hc ⊢
  have HW : Hid (View w (behind (some (⟨b, off, none⟩ : Addr)) c 1) b (off + 1) (n - 1) (fun i => ((gd s (1 + i) : Nat) : Int))) := by
    refine ⟨fun h => ?_, fun i hi => ?_, fun i hi => ?_, by omega⟩
    · unfold behind
      rw [if_neg (by omega)]
      rfl
    · have := HV.out.cell (1 + i) (by have := HE.out; omega)
      rw [Nat.add_assoc]
      exact this
    · have := HB.out (1 + i)
      omega
  obtain ⟨a', ha'⟩ : ∃ a', a' = behind (some (⟨b, off, none⟩ : Addr)) c 1 := ⟨_, rfl⟩
  have j1 : ∀ u, (Instr.slice 22 (.slice (some ⟨b, off, none⟩) n c) (some (.int .i64 1)) none none).run Try.prog u = .ok (.slice a' (n - 1) (c - 1)) u := fun u => by rw [ha']; exact slice_from _ n c 1 (by omega) u
  rw [← ha'] at HW
  clear hv hp ho en hx m32 eo ha' ep hpe
  have hmk := run_make_row' (P := Try.prog) 22 5 (.int .u8 0) 1 Try.underlying22 Try.info5 rfl .i64 .i64 p (by omega) (by omega)
  obtain ⟨a2, ha2⟩ : ∃ a2, a2 = behind (some (⟨w.heap.size, 0, none⟩ : Addr)) p 1 := ⟨_, rfl⟩
  have j2 : ∀ u, (Instr.slice 22 (.slice (some ⟨w.heap.size, 0, none⟩) p p) (some (.int .i64 1)) none none).run Try.prog u = .ok (.slice a2 (p - 1) (p - 1)) u := fun u => by rw [ha2]; exact slice_from _ p p 1 (by omega) u
  have HA2 : Hid (1 < n → a2 = some ⟨w.heap.size, 1, none⟩) := fun h => by
    rw [ha2]
    unfold behind
    rw [if_neg (by omega)]
    rfl
  clear ha2
  have s0 : (w.alloc (.cells (madeCells #[.int .u8 0] p) 5)).cell? ⟨w.heap.size, 0, none⟩ = some (.int .u8 0) := (NewRow.made w p).row.cell (i := 0) (by omega)
  have f0 : (w.alloc (.cells (madeCells #[.int .u8 0] p) 5)).frozen? ⟨w.heap.size, 0, none⟩ = false := (NewRow.made w p).row.frozen 0
  have d0 : (w.alloc (.cells (madeCells #[.int .u8 0] p) 5)).cell? ⟨b, off, none⟩ = some (.int .u8 (x : Int)) := (World.cell?_alloc_old _ _ _ (by show b ≠ w.heap.size; omega)).trans c0
  have HK : Hid (Calls Try.prog 83 #[.slice (some ⟨b, off, none⟩) n c] w fun e w' => e = .returned (.bool true) ∧ w' = w) := K
  have HK2 : Hid (Calls Try.prog 84 #[.slice (some ⟨b, off, none⟩) n c] w fun e w' => e = .returned (.int .i64 ((p : Nat) : Int)) ∧ w' = w) := K2
  have i1 : (0 : Int) < (n : Int) := by omega
  have i1b : 0 < n := by omega
  clear K K2
  go_enter Try.func76, Try.ntmps76
  go_wp2_with fail
  refine HK.out.mono ?_
  rintro e w1 ⟨rfl, rfl⟩
  go_wp2_with fail
  refine HK2.out.mono ?_
  rintro e w2 ⟨rfl, rfl⟩
  go_wp2_with fail
  have HN : Hid (NewRow w2 (w2.alloc (.cells ((madeCells #[.int .u8 0] p).setIfInBounds 0 (.int .u8 ((x : Int) % 16))) 5)) p (upZ s 0)) := upZ_odd HU.out.1 (HX0.out _ rfl)
  clear hmk d0 s0 f0
  go_loopg [31] (n - 1) (fun g i wr => ∃ k : Nat, k ≤ n - 1 ∧ g = n - 1 - k ∧ i = .int .i64 k ∧ NewRow w2 wr p (upZ s k))
  case atStart => exact ⟨0, Nat.zero_le _, rfl, rfl, HN.out⟩
  case round =>
    obtain ⟨k, hk, rfl, rfl, hR⟩ := hrel
    have HR : Hid (NewRow w2 wr p (upZ s k)) := hR
    clear HN
    by_cases hkn : k < n - 1
    · obtain rfl := HW.out.at_ (by omega)
      obtain rfl := HA2.out (by omega)
      have d1 : wr.cell? ⟨b, off + 1 + k, none⟩ = some (.int .u8 ((gd s (1 + k) : Nat) : Int)) := (hR.below.cell (p := ⟨b, off + 1 + k, none⟩) hlt).trans (HW.out.cell k hkn)
      have z1 : gd s (1 + k) < 256 := HB.out _
      have s1 := hR.row.cell (i := 1 + 2 * k) (by omega)
      have f1 := hR.row.frozen (1 + 2 * k)
      have s2 := hR.row.cell (i := 1 + (2 * k + 1)) (by omega)
      have f2 := hR.row.frozen (1 + (2 * k + 1))
      have HY : Hid (∀ y z : Int, y = ((gd s (1 + k) : Nat) : Int) / 16 → z = ((gd s (1 + k) : Nat) : Int) % 16 → NewRow w2 ((wr.setCell ⟨w2.heap.size, 1 + 2 * k, none⟩ (.int .u8 y)).setCell ⟨w2.heap.size, 1 + (2 * k + 1), none⟩ (.int .u8 z)) p (upZ s (k + 1))) := fun y z hy hz => upZ_step hR HU.out.1 (by omega) (by omega) (by rw [hy]; omega) (by rw [hz]; omega)
      obtain ⟨y, hy⟩ : ∃ y, y = gd s (1 + k) := ⟨_, rfl⟩
      rw [← hy] at d1 z1 HY
      obtain ⟨t1, ht1⟩ : ∃ t, t = upZ s k (1 + 2 * k) := ⟨_, rfl⟩
      obtain ⟨t2, ht2⟩ : ∃ t, t = upZ s k (1 + (2 * k + 1)) := ⟨_, rfl⟩
      rw [← ht1] at s1
      rw [← ht2] at s2
      clear hy ht1 ht2 hR
      have y0 : (0 : Int) ≤ (y : Int) := by omega
      have y1 : (y : Int) ≤ 255 := by omega
      have k1 : (k : Int) < ((n - 1 : Nat) : Int) := by omega
      have k2 : 2 * (k : Int) < ((p - 1 : Nat) : Int) := by omega
      have k3 : 2 * (k : Int) + 1 < ((p - 1 : Nat) : Int) := by omega
      go_wp2_with fail
      go_roundg (n - 1 - (k + 1))
      case measure => omega
      case rel => exact ⟨k + 1, by omega, rfl, by go_num, HY.out _ _ rfl rfl⟩
    · have : k = n - 1 := by omega
      subst this
      have i5 : ¬ ((n - 1 : Nat) : Int) < ((n - 1 : Nat) : Int) := by omega
      have d2 : wr.cell? ⟨b, off, none⟩ = some (.int .u8 (x : Int)) := (hR.below.cell (p := ⟨b, off, none⟩) hlt).trans c0
      have r : NewRow w2 wr p (upY s) := hR.congr (fun i hi => by unfold upZ; rw [HU.out.1, if_pos (by omega)])
      have HN : Hid (NewRow w2 wr p (upY s)) := r
      clear r hR
      by_cases q : 32 ≤ x
      · have m32 : bits .and .u8 (x : Int) 32 = 32 := by rw [HM.out, show x / 32 % 2 = 1 by omega]; rfl
        have el : lf s = true := by rw [HLF.out]; exact decide_eq_true q
        have HEL : Hid (lf s = true) := el
        clear el q
        go_wp2_with fail
        go_quiet (fail)
        go_wp2_with fail
        go_ret3
        refine ⟨_, by rw [HEL.out]; rfl, ?_⟩
        unfold upL
        rw [← HU.out.2]
        exact (HN.out.drewN _).ans (fun i _ => by have := nib_le HI.out (i + (2 - od s)); unfold upY; omega) (by omega)
      · have m32 : bits .and .u8 (x : Int) 32 = 0 := by rw [HM.out, show x / 32 % 2 = 0 by omega]; rfl
        have el : lf s = false := by rw [HLF.out]; exact decide_eq_false q
        have HEL : Hid (lf s = false) := el
        clear el q
        go_wp2_with fail
        go_quiet (fail)
        go_wp2_with fail
        go_ret3
        refine ⟨_, by rw [HEL.out]; rfl, ?_⟩
        unfold upL
        rw [← HU.out.2]
        exact (HN.out.drewN _).ans (fun i _ => by have := nib_le HI.out (i + (2 - od s)); unfold upY; omega) (by omega)
end Go.Proofs.Ytadcbhjmbgenbaa
