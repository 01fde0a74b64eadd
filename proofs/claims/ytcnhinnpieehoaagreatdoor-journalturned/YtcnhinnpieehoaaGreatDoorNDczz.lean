import Derived.Test.YtcnhinnpieehoaaGreatDoorNRwzz
import Derived.Defers
import Derived.Recover
import Derived.Laws.Pointers
namespace Go.Proofs.YtcnhinnpieehoaaGreatDoor.Nz
open Go.RowKit
theorem infoF2 : (Tryz.prog.info? 124).map (·.size) = some 2 := by kernel_rfl
theorem typeAssertF (v : Value) (w : World) : (Instr.typeAssert (.iface 124 v) 20 124 true).run Tryz.prog w = .ok (.tuple #[v, .bool true]) w := by
 simp [Instr.typeAssert, run_underlying Tryz.underlying124, go_sem, Result.andThen]
set_option maxRecDepth 100000 in
set_option maxHeartbeats 1600000 in
theorem faultOf_any (w : World) (p c : Nat) : Calls Tryz.prog 68 #[.iface 124 (.agg #[.int .i64 p, .int .i64 c])] w fun e w' => e = .returned (.agg #[.int .i64 p, .int .i64 c]) ∧ Below w.heap.size w w' := by
 have hta := typeAssertF
 go_enter Tryz.func68, Tryz.ntmps68
 go_wp2_with fail
 refine bodyPost_ret (v := .agg #[.int .i64 p, .int .i64 c]) ?_ rfl ⟨rfl, ((below_alloc _ _).alloc (by simp) _)⟩
 exact results_cell_row rfl _ _ w.heap.size 124 #[.int .i64 p, .int .i64 c] (0, 0) _ rfl ((heap_alloc_old _ _ (by simp)).trans (heap_alloc_new _ _)) Tryz.underlying124 rfl infoF2
structure Rs (w : World) (g : Nat) (x y z : Value) (pl er : Int) : Prop where
 item : Bx w g 87 x y z
 place : w.heap[g + 1]? = some (.cells #[.int .i64 pl] 3 (0, 0))
 errno : w.heap[g + 2]? = some (.cells #[.int .i64 er] 34 (0, 0))
theorem one_set {w : World} {k : Nat} {v v' : Value} {t : TypeId} (h : w.heap[k]? = some (.cells #[v] t (0, 0))) : (w.setCell ⟨k, 0, none⟩ v').heap[k]? = some (.cells #[v'] t (0, 0)) := by
 simp only [World.setCell, Array.getElem?_modify, if_true]
 rw [h]
 rfl
theorem Rs.write {w : World} {g : Nat} {x y z x' y' z' : Value} {pl er pl' er' : Int} (h : Rs w g x y z pl er) : Rs (((set3 w g x' y' z').setCell ⟨g + 1, 0, none⟩ (.int .i64 pl')).setCell ⟨g + 2, 0, none⟩ (.int .i64 er')) g x' y' z' pl' er' ∧ Below g w (((set3 w g x' y' z').setCell ⟨g + 1, 0, none⟩ (.int .i64 pl')).setCell ⟨g + 2, 0, none⟩ (.int .i64 er')) := by
 have t1 := set3_turn w g x' y' z'
 have h2 : g + 2 < w.heap.size := (Array.getElem?_eq_some_iff.1 h.errno).1
 refine ⟨⟨?_, ?_, ?_⟩, ?_⟩
 ·refine (h.item.set3).keep ?_
  rw [Below.heap_setCell _ _ _ _ (by show g ≠ g + 2; omega), Below.heap_setCell _ _ _ _ (by show g ≠ g + 1; omega)]
 ·rw [Below.heap_setCell _ _ _ _ (by show g + 1 ≠ g + 2; omega)]
  exact one_set ((t1.block _ (by omega) (by omega)).trans h.place)
 ·refine one_set (v := .int .i64 er) ?_
  rw [Below.heap_setCell _ _ _ _ (by show g + 2 ≠ g + 1; omega), t1.block _ (by omega) (by omega)]
  exact h.errno
 ·exact ((t1.below (B := g) (fun i q => by omega) (by omega)).setCell (by show g ≤ g + 1; omega) _).setCell (by show g ≤ g + 2; omega) _
set_option maxRecDepth 100000 in
set_option maxHeartbeats 1600000 in
theorem catch_panicking (g p c : Nat) (x y z : Value) (pl er : Int) (older : List PanicEntry) (w : World) (h : Rs w g x y z pl er) :
  CallsD Tryz.prog 67 #[.pointer (some ⟨g, 0, none⟩), .pointer (some ⟨g + 1, 0, none⟩), .pointer (some ⟨g + 2, 0, none⟩)] (.panicking (flt p c :: older)) w fun e u' w' =>
   e = .returned (.tuple #[]) ∧ u' = .panicking ({ flt p c with recovered := true } :: older) ∧ Rs w' g (.bool false) (.slice none 0 0) (.slice none 0 0) p c ∧ Below g w w' := by
 have KF := faultOf_any w p c
 refine callsD_of_wpS Tryz.func67 rfl fun c₀ cs hu => ?_
 apply wpS_seq
 apply wpS_region
 simp [wpOpsS, go_sem, recoverD, hu, flt, Tryz.ntmps67, Exit.thenS]
 refine wpS_of_wp ?_
 have e12 : Array.replicate 12 undef = #[undef, undef, undef, undef, undef, undef, undef, undef, undef, undef, undef, undef] := rfl
 simp only [e12, List.setIfInBounds_toArray, List.set_cons_zero, List.set_cons_succ, List.append_toArray, List.cons_append, List.nil_append]
 clear e12
 go_wp2_with (go_at_call 68; refine KF.mono ?_; rintro e w1 ⟨rfl, hb1⟩)
 have z2 : g + 2 < w.heap.size := (Array.getElem?_eq_some_iff.1 h.errno).1
 obtain ⟨W, eW⟩ : ∃ W, W = w1.alloc (.cells #[.int .i64 p, .int .i64 c] 124) := ⟨_, rfl⟩
 have bW : Below w.heap.size w W := by rw [eW]; exact ch hb1 (below_alloc _ _)
 have hx : Bx W g 87 x y z := h.item.keep (bW.block _ (by omega))
 have hp := (bW.block (g + 1) (by omega)).trans h.place
 have he := (bW.block (g + 2) (by omega)).trans h.errno
 have hf : W.heap[w1.heap.size]? = some (.cells #[.int .i64 p, .int .i64 c] 124 (0, 0)) := by rw [eW]; exact heap_alloc_new _ _
 obtain ⟨x0, x1, x2, xf⟩ := hx.cells
 have xf0 := xf 0
 have xf1 := xf 1
 have xf2 := xf 2
 have p0 : W.cell? ⟨g + 1, 0, none⟩ = some (.int .i64 pl) := cell_of_row _ _ _ _ _ _ hp
 have e0 : W.cell? ⟨g + 2, 0, none⟩ = some (.int .i64 er) := cell_of_row _ _ _ _ _ _ he
 have f0 : W.cell? ⟨w1.heap.size, 0, none⟩ = some (.int .i64 p) := cell_of_row _ _ _ _ _ _ hf
 have f1 : W.cell? ⟨w1.heap.size, 1, none⟩ = some (.int .i64 c) := cell_of_row _ _ _ _ _ _ hf
 have fr : ∀ (k : Nat) (cs : Array Value) (t : TypeId), W.heap[k]? = some (.cells cs t (0, 0)) → W.frozen? ⟨k, 0, none⟩ = false := fun k cs t hk => by
  have r : W.rowIs k t cs.size (fun i => cs.getD i (.bool true)) := ⟨_, hk, rfl, fun i hi => by
   show _ = some (cs.getD i (.bool true))
   rw [Array.getD_eq_getD_getElem?, Array.getElem?_eq_getElem (by simpa using hi)]
   rfl⟩
  exact r.frozen 0
 have pf := fr _ _ _ hp
 have ef := fr _ _ _ he
 rw [← eW]
 have n1 : ¬ w1.heap.size = g := by have := hb1.size; omega
 have n2 : ¬ w1.heap.size = g + 1 := by have := hb1.size; omega
 have n3 : ¬ w1.heap.size = g + 2 := by have := hb1.size; omega
 have m1 : ¬ g = w1.heap.size := by have := hb1.size; omega
 have m2 : ¬ g + 1 = w1.heap.size := by have := hb1.size; omega
 have m3 : ¬ g + 2 = w1.heap.size := by have := hb1.size; omega
 have HH : Hid (Bx W g 87 x y z ∧ W.heap[g + 1]? = some (.cells #[.int .i64 pl] 3 (0, 0)) ∧ W.heap[g + 2]? = some (.cells #[.int .i64 er] 34 (0, 0)) ∧ Below w.heap.size w W ∧ g + 2 < w.heap.size) := ⟨hx, hp, he, bW, z2⟩
 clear hx hp he hf fr xf eW bW h KF hb1
 go_region_held3 (fun w' => w'.cell? ⟨w1.heap.size, 0, none⟩ = some (.int .i64 p) ∧ w'.cell? ⟨w1.heap.size, 1, none⟩ = some (.int .i64 c)) (first | go_keep | (constructor <;> simp_all)) (fail)
 have hR : Rs W g x y z pl er := ⟨HH.out.1, HH.out.2.1, HH.out.2.2.1⟩
 have hw := hR.write (x' := .bool false) (y' := .slice none 0 0) (z' := .slice none 0 0) (pl' := p) (er' := c)
 have hb : Below g w W := HH.out.2.2.2.1.mono (by have := HH.out.2.2.2.2; omega)
 exact ⟨rfl, _, rfl, .tuple #[], results_none rfl _ _ _, rfl, rfl, ⟨hw.1.item, hw.1.place, hw.1.errno⟩, (hb.trans hw.2).drew⟩
set_option maxRecDepth 100000 in
set_option maxHeartbeats 1600000 in
theorem catch_idle (g : Nat) (w : World) :
  CallsD Tryz.prog 67 #[.pointer (some ⟨g, 0, none⟩), .pointer (some ⟨g + 1, 0, none⟩), .pointer (some ⟨g + 2, 0, none⟩)] .returning w fun e u' w' => e = .returned (.tuple #[]) ∧ u' = .returning ∧ w' = w := by
 refine callsD_of_wpS Tryz.func67 rfl fun c₀ cs hu => ?_
 apply wpS_seq
 apply wpS_region
 simp [wpOpsS, go_sem, recoverD, hu, Tryz.ntmps67, Exit.thenS]
 refine wpS_of_wp ?_
 have e12 : Array.replicate 12 undef = #[undef, undef, undef, undef, undef, undef, undef, undef, undef, undef, undef, undef] := rfl
 simp only [e12, List.setIfInBounds_toArray, List.set_cons_zero, List.set_cons_succ, List.append_toArray, List.cons_append, List.nil_append]
 clear e12
 go_wp2_with fail
 cases c₀
 simp only at hu
 subst hu
 exact ⟨rfl, .returning, rfl, .tuple #[], results_none rfl _ _ _, rfl, rfl, rfl⟩
open Go.RowKit
def decX (s : List Nat) : It := match dec s with | .ok x => x | .bad _ _ => .mk false [] []
def decP (s : List Nat) : Nat := match dec s with | .ok _ => 0 | .bad p _ => p
def decE (s : List Nat) : Nat := match dec s with | .ok _ => 0 | .bad _ e => e
def DecPost (s : List Nat) (w : World) (r : Ending) (w' : World) : Prop :=
 ∃ vb vi, r = .returned (.tuple #[iv (decX s).l vb vi, .int .i64 (decP s), .int .i64 (decE s)]) ∧ Own w' w.heap.size w'.heap.size (decX s) vb vi ∧ Below w.heap.size w w'
theorem res3c {fn : Func} {p q r : Tmp} (h : fn.results = #[.cell p 87, .cell q 3, .cell r 34]) (tmps : Array Value) (w : World) (g : Nat) (x y z : Value) (pl er : Int)
  (hp : tmps.getD p undef = .pointer (some ⟨g, 0, none⟩)) (hq : tmps.getD q undef = .pointer (some ⟨g + 1, 0, none⟩)) (hr : tmps.getD r undef = .pointer (some ⟨g + 2, 0, none⟩)) (hR : Rs w g x y z pl er) :
  (results fn tmps).run Tryz.prog w = .ok (.tuple #[.agg #[x, y, z], .int .i64 pl, .int .i64 er]) w := by
 have hp' : tmps[p]?.getD undef = .pointer (some ⟨g, 0, none⟩) := by simpa using hp
 have hq' : tmps[q]?.getD undef = .pointer (some ⟨g + 1, 0, none⟩) := by simpa using hq
 have hr' : tmps[r]?.getD undef = .pointer (some ⟨g + 2, 0, none⟩) := by simpa using hr
 obtain ⟨x0, x1, x2, -⟩ := hR.item.cells
 have p0 : w.cell? ⟨g + 1, 0, none⟩ = some (.int .i64 pl) := cell_of_row _ _ _ _ _ _ hR.place
 have e0 : w.cell? ⟨g + 2, 0, none⟩ = some (.int .i64 er) := cell_of_row _ _ _ _ _ _ hR.errno
 have l0 := loadVar25 x0 x1 x2
 have l1 : (loadVar 3 ⟨g + 1, 0, none⟩).run Tryz.prog w = .ok (.int .i64 pl) w := by simp [loadVar, go_sem, p0]
 have l2 : (loadVar 34 ⟨g + 2, 0, none⟩).run Tryz.prog w = .ok (.int .i64 er) w := by simp [loadVar, go_sem, e0]
 simp [results, h, hp', hq', hr', asAddr, l0, l1, l2]
theorem Rs.made (w : World) (x y z : Value) (pl er : Int) : Rs (((w.alloc (.cells #[x, y, z] 87)).alloc (.cells #[.int .i64 pl] 3)).alloc (.cells #[.int .i64 er] 34)) w.heap.size x y z pl er := by
 refine ⟨?_, ?_, ?_⟩
 ·show _ = _
  rw [heap_alloc_old _ _ (by simp; omega), heap_alloc_old _ _ (by simp)]
  exact heap_alloc_new _ _
 ·rw [heap_alloc_old _ _ (by simp)]
  have := heap_alloc_new (w.alloc (.cells #[x, y, z] 87)) (.cells #[.int .i64 pl] 3)
  simpa using this
 ·have := heap_alloc_new ((w.alloc (.cells #[x, y, z] 87)).alloc (.cells #[.int .i64 pl] 3)) (.cells #[.int .i64 er] 34)
  simpa using this
theorem Rs.keep {w w' : World} {g : Nat} {x y z : Value} {pl er : Int} (h : Rs w g x y z pl er) (k : Below w.heap.size w w') : Rs w' g x y z pl er := by
 have h2 : g + 2 < w.heap.size := (Array.getElem?_eq_some_iff.1 h.errno).1
 exact ⟨h.item.keep (k.block _ (by omega)), (k.block _ (by omega)).trans h.place, (k.block _ (by omega)).trans h.errno⟩
theorem Rs.facts {w : World} {g : Nat} {x y z : Value} {pl er : Int} (h : Rs w g x y z pl er) : (w.cell? ⟨g, 0, none⟩ = some x ∧ w.cell? ⟨g, 1, none⟩ = some y ∧ w.cell? ⟨g, 2, none⟩ = some z ∧ w.cell? ⟨g + 1, 0, none⟩ = some (.int .i64 pl) ∧ w.cell? ⟨g + 2, 0, none⟩ = some (.int .i64 er)) ∧
  (w.frozen? ⟨g, 0, none⟩ = false ∧ w.frozen? ⟨g, 1, none⟩ = false ∧ w.frozen? ⟨g, 2, none⟩ = false ∧ w.frozen? ⟨g + 1, 0, none⟩ = false ∧ w.frozen? ⟨g + 2, 0, none⟩ = false) := by
 obtain ⟨x0, x1, x2, xf⟩ := h.item.cells
 have fr : ∀ (k : Nat) (v : Value) (t : TypeId), w.heap[k]? = some (.cells #[v] t (0, 0)) → w.frozen? ⟨k, 0, none⟩ = false := fun k v t hk => by
  have r : w.rowIs k t 1 (fun _ => v) := ⟨_, hk, rfl, fun i hi => by
   obtain rfl : i = 0 := by omega
   rfl⟩
  exact r.frozen 0
 exact ⟨⟨x0, x1, x2, cell_of_row _ _ _ _ _ _ h.place, cell_of_row _ _ _ _ _ _ h.errno⟩, xf 0, xf 1, xf 2, fr _ _ _ h.place, fr _ _ _ h.errno⟩
theorem DecPost.of {s : List Nat} {w w' : World} {vb vi : Value} {x : It} {pl er : Nat} (hR : Rs w' w.heap.size (.bool x.l) vb vi pl er) (ho : Own w' w.heap.size w'.heap.size x vb vi) (hb : Below w.heap.size w w') (hx : decX s = x) (hp : decP s = pl) (he : decE s = er) (tmps : Array Value)
  (h1 : tmps.getD 2 undef = .pointer (some ⟨w.heap.size, 0, none⟩)) (h2 : tmps.getD 3 undef = .pointer (some ⟨w.heap.size + 1, 0, none⟩)) (h3 : tmps.getD 4 undef = .pointer (some ⟨w.heap.size + 2, 0, none⟩)) : ∃ v, (results Tryz.f43 tmps).run Tryz.prog w' = .ok v w' ∧ DecPost s w (.returned v) w' :=
 ⟨_, res3c rfl tmps w' w.heap.size _ _ _ _ _ h1 h2 h3 hR, vb, vi, by rw [hx, hp, he], by rw [hx]; exact ho, hb⟩
set_option maxRecDepth 100000 in
set_option maxHeartbeats 3200000 in
theorem decode_any (w : World) (a : Option Addr) (b off c : Nat) (s : List Nat) (hv : Vw w a b off s) (hc : s.length ≤ c) (hl : s.length ≤ 140737488355328) :
  Calls Tryz.prog 43 #[.slice a s.length c] w (DecPost s w) := by
 have hmf : ∀ (fn : Fn) (first cap : Array Value) (w : World), (Instr.makeFunc fn first cap).run Tryz.prog w = .ok (.func fn first cap) w := fun _ _ _ _ => rfl
 obtain ⟨n, en⟩ : ∃ n, n = s.length := ⟨_, rfl⟩
 have HN : Hid (n = s.length) := en
 by_cases hbig : 1048576 < s.length
 ·have HD : Hid (dec s = .bad 0 54) := by show _ = _; unfold dec; rw [if_pos hbig]
  have i1 : (1048576 : Int) < (n : Int) := by omega
  rw [← en]
  clear hv hc en
  go_enter_defers Tryz.func43, Tryz.ntmps43
  go_wp2_with fail
  refine DecPost.of (x := .mk false [] []) (pl := 0) (er := 54) (Rs.made w _ _ _ _ _) (Own.zero _ _ _) (((below_alloc _ _).alloc (by simp) _).alloc (by simp; omega) _) (by unfold decX; rw [HD.out]) (by unfold decP; rw [HD.out]) (by unfold decE; rw [HD.out]) _ rfl rfl rfl
 ·have hvp : Vp w a b off n c s := ⟨by rw [en]; exact hv, by omega, by omega, by omega, (vw_ok hv).2⟩
  have i1 : ¬ (1048576 : Int) < (n : Int) := by omega
  have HD : Hid (dec s = match rd s 80 0 n with
    | .bad p e => .bad p e
    | .ok x e => if e < n then .bad e 51 else .ok x) := by
   show _ = _
   unfold dec
   rw [if_neg hbig, en]
   rfl
  rw [← en]
  obtain ⟨W, eW⟩ : ∃ W, W = ((w.alloc (.cells #[.bool false, .slice none 0 0, .slice none 0 0] 87)).alloc (.cells #[.int .i64 0] 3)).alloc (.cells #[.int .i64 0] 34) := ⟨_, rfl⟩
  have bW : Below w.heap.size w W := by rw [eW]; exact ((below_alloc _ _).alloc (by simp) _).alloc (by simp; omega) _
  have rW : Rs W w.heap.size (.bool false) (.slice none 0 0) (.slice none 0 0) 0 0 := by rw [eW]; exact Rs.made w _ _ _ _ _
  have sW : W.heap.size = w.heap.size + 3 := by rw [eW]; simp
  have KK := (read_any 80 (by omega)).2 W a b off n c 0 s (hvp.keep bW) (by omega)
  rw [show ((80 - 80 : Nat) : Int) = 0 by decide] at KK
  have HW : Hid (W = ((w.alloc (.cells #[.bool false, .slice none 0 0, .slice none 0 0] 87)).alloc (.cells #[.int .i64 0] 3)).alloc (.cells #[.int .i64 0] 34) ∧ Below w.heap.size w W ∧ Rs W w.heap.size (.bool false) (.slice none 0 0) (.slice none 0 0) 0 0 ∧ W.heap.size = w.heap.size + 3) := ⟨eW, bW, rW, sW⟩
  have er : ∀ r w', ItemPost s 80 0 n W r w' → Below W.heap.size W w' ∧ match rd s 80 0 n with
    | .ok x z => ∃ vb vi, r = .returned (.tuple #[iv x.l vb vi, .int .i64 z]) ∧ Own w' W.heap.size w'.heap.size x vb vi
    | .bad q c => r = .panicked [flt q c] := fun r w' h => h
  clear hv hc en hbig eW bW rW sW
  cases hrd : rd s 80 0 n with
  | bad q cd =>
   rw [hrd] at er
   have HX : Hid (dec s = .bad q cd) := by
    show _ = _
    rw [HD.out, hrd]
   clear hrd
   go_enter_defers Tryz.func43, Tryz.ntmps43
   go_wp2_with fail
   rw [← HW.out.1]
   refine KK.mono ?_
   intro r w2 hr
   obtain ⟨hb2, rfl⟩ := er r w2 hr
   clear hr
   go_wp2_with fail
   refine leaves_cons (f := 67) (args := #[.pointer (some ⟨w.heap.size, 0, none⟩), .pointer (some ⟨w.heap.size + 1, 0, none⟩), .pointer (some ⟨w.heap.size + 2, 0, none⟩)]) (by simp) (by simp [go_sem]) ?_
   refine (catch_panicking w.heap.size q cd _ _ _ _ _ [] w2 (HW.out.2.2.1.keep hb2)).mono ?_
   rintro e u' w'' ⟨rfl, rfl, hR, hB⟩
   have hb3 : Below w.heap.size w w'' := (ch HW.out.2.1 hb2).trans hB
   refine DecPost.of (x := .mk false [] []) (pl := q) (er := cd) hR (Own.zero _ _ _) hb3 (by unfold decX; rw [HX.out]) (by unfold decP; rw [HX.out]) (by unfold decE; rw [HX.out]) _ rfl rfl rfl
  | ok x z =>
   rw [hrd] at er
   have HX : Hid (dec s = if z < n then .bad z 51 else .ok x) := by
    show _ = _
    rw [HD.out, hrd]
   clear hrd
   by_cases hz : z < n
   ·have i2 : (z : Int) < (n : Int) := by omega
    have HX2 : Hid (dec s = .bad z 51) := by show _ = _; rw [HX.out, if_pos hz]
    have KG := fun w => giveUp_any w z 51
    go_enter_defers Tryz.func43, Tryz.ntmps43
    go_wp2_with fail
    rw [← HW.out.1]
    refine KK.mono ?_
    intro r w2 hr
    obtain ⟨hb2, vb, vi, rfl, ho⟩ := er r w2 hr
    obtain ⟨a1, n1, k1, a2, n2, k2, rfl, rfl⟩ := ho.lies.form
    have rs2 := HW.out.2.2.1.keep hb2
    obtain ⟨⟨x0, x1, x2, x3, x4⟩, f0, f1, f2, f3, f4⟩ := rs2.facts
    have HZ : Hid (Rs w2 w.heap.size (.bool false) (.slice none 0 0) (.slice none 0 0) 0 0 ∧ Below W.heap.size W w2) := ⟨rs2, hb2⟩
    clear hr rs2 hb2 ho
    go_wp2_with (go_at_call 70; refine (KG _).mono ?_; rintro e w' ⟨rfl, rfl⟩)
    have hb2 := HZ.out.2
    have t3 := set3_turn w2 w.heap.size (.bool x.l) (.slice a1 n1 k1) (.slice a2 n2 k2)
    have hsz := HW.out.2.2.2
    have hsz2 := hb2.size
    have rs3 : Rs (set3 w2 w.heap.size (.bool x.l) (.slice a1 n1 k1) (.slice a2 n2 k2)) w.heap.size (.bool x.l) (.slice a1 n1 k1) (.slice a2 n2 k2) 0 0 := ⟨HZ.out.1.item.set3, (t3.block _ (by omega) (by omega)).trans HZ.out.1.place, (t3.block _ (by omega) (by omega)).trans HZ.out.1.errno⟩
    have b3 : Below w.heap.size w (set3 w2 w.heap.size (.bool x.l) (.slice a1 n1 k1) (.slice a2 n2 k2)) := (ch HW.out.2.1 hb2).trans (t3.below (fun i q => by omega) (by omega))
    refine leaves_cons (f := 67) (args := #[.pointer (some ⟨w.heap.size, 0, none⟩), .pointer (some ⟨w.heap.size + 1, 0, none⟩), .pointer (some ⟨w.heap.size + 2, 0, none⟩)]) (by simp) (by simp [go_sem]) ?_
    refine (catch_panicking w.heap.size z 51 _ _ _ _ _ [] _ rs3).mono ?_
    rintro e u' w'' ⟨rfl, rfl, hR, hB⟩
    exact DecPost.of (x := .mk false [] []) (pl := z) (er := 51) hR (Own.zero _ _ _) (b3.trans hB) (by unfold decX; rw [HX2.out]) (by unfold decP; rw [HX2.out]) (by unfold decE; rw [HX2.out]) _ rfl rfl rfl
   ·have i2 : ¬ (z : Int) < (n : Int) := by omega
    have HX2 : Hid (dec s = .ok x) := by show _ = _; rw [HX.out, if_neg hz]
    go_enter_defers Tryz.func43, Tryz.ntmps43
    go_wp2_with fail
    rw [← HW.out.1]
    refine KK.mono ?_
    intro r w2 hr
    obtain ⟨hb2, vb, vi, rfl, ho⟩ := er r w2 hr
    obtain ⟨a1, n1, k1, a2, n2, k2, rfl, rfl⟩ := ho.lies.form
    have rs2 := HW.out.2.2.1.keep hb2
    obtain ⟨⟨x0, x1, x2, x3, x4⟩, f0, f1, f2, f3, f4⟩ := rs2.facts
    have HZ : Hid (Rs w2 w.heap.size (.bool false) (.slice none 0 0) (.slice none 0 0) 0 0 ∧ Below W.heap.size W w2 ∧ Own w2 W.heap.size w2.heap.size x (.slice a1 n1 k1) (.slice a2 n2 k2)) := ⟨rs2, hb2, ho⟩
    clear hr rs2 hb2 ho
    go_wp2_with fail
    have hb2 := HZ.out.2.1
    have t3 := set3_turn w2 w.heap.size (.bool x.l) (.slice a1 n1 k1) (.slice a2 n2 k2)
    have hsz := HW.out.2.2.2
    have hsz2 := hb2.size
    have rs3 : Rs (set3 w2 w.heap.size (.bool x.l) (.slice a1 n1 k1) (.slice a2 n2 k2)) w.heap.size (.bool x.l) (.slice a1 n1 k1) (.slice a2 n2 k2) 0 0 := ⟨HZ.out.1.item.set3, (t3.block _ (by omega) (by omega)).trans HZ.out.1.place, (t3.block _ (by omega) (by omega)).trans HZ.out.1.errno⟩
    have b3 : Below w.heap.size w (set3 w2 w.heap.size (.bool x.l) (.slice a1 n1 k1) (.slice a2 n2 k2)) := (ch HW.out.2.1 hb2).trans (t3.below (fun i q => by omega) (by omega))
    have rs4 := rs3.write (x' := .bool x.l) (y' := .slice a1 n1 k1) (z' := .slice a2 n2 k2) (pl' := 0) (er' := 0)
    refine leaves_cons (f := 67) (args := #[.pointer (some ⟨w.heap.size, 0, none⟩), .pointer (some ⟨w.heap.size + 1, 0, none⟩), .pointer (some ⟨w.heap.size + 2, 0, none⟩)]) (by simp) (by simp [go_sem]) ?_
    refine (catch_idle w.heap.size _).mono ?_
    rintro e u' w'' ⟨rfl, rfl, rfl⟩
    refine DecPost.of (x := x) (pl := 0) (er := 0) rs4.1 ?_ (b3.trans rs4.2) (by unfold decX; rw [HX2.out]) (by unfold decP; rw [HX2.out]) (by unfold decE; rw [HX2.out]) _ rfl rfl rfl
    have ho : Own (((set3 (set3 w2 w.heap.size (.bool x.l) (.slice a1 n1 k1) (.slice a2 n2 k2)) w.heap.size (.bool x.l) (.slice a1 n1 k1) (.slice a2 n2 k2)).setCell ⟨w.heap.size + 1, 0, none⟩ (.int .i64 0)).setCell ⟨w.heap.size + 2, 0, none⟩ (.int .i64 0)) W.heap.size w2.heap.size x (.slice a1 n1 k1) (.slice a2 n2 k2) := HZ.out.2.2.same (fun q q1 q2 => by
     have t4 := set3_turn (set3 w2 w.heap.size (.bool x.l) (.slice a1 n1 k1) (.slice a2 n2 k2)) w.heap.size (.bool x.l) (.slice a1 n1 k1) (.slice a2 n2 k2)
     rw [Below.heap_setCell _ _ _ _ (by show q ≠ w.heap.size + 2; omega), Below.heap_setCell _ _ _ _ (by show q ≠ w.heap.size + 1; omega), t4.block q (by rw [set3_size]; omega) (by omega), t3.block q q2 (by omega)])
    exact ho.wide (by omega) (by simp)
end Go.Proofs.YtcnhinnpieehoaaGreatDoor.Nz
