import Derived.Test.YtcnhinnpieehoaaGreatDoorCards
import Derived.Test.YtcnhinnpieehoaaGreatDoorTie
import Derived.ProofKit
import Derived.OpenShut
import Derived.Deep.DeepHandedRow
import Derived.Lib.LaidTab
import Derived.Lib.LaidU8
import Derived.Test.YtcnhinnpieehoaaGreatDoorHkzz
import Derived.Test.YtcnhinnpieehoaaGreatDoorC1zz
import Derived.Test.YtcnhinnpieehoaaGreatDoorWf1zz
namespace Go.Proofs.YtcnhinnpieehoaaGreatDoor.Dg
open Go Go.ChangeShapes Go.WideShapes Go.ChangeAt Go.RowKit
def KN : List Value := [.int .i64 (.ofNat 1), .int .i64 (.ofNat 0), .int .i64 (.ofNat 0), .bool true, .int .i64 (.ofNat 2), .int .i64 (.ofNat 1), .int .i64 (.ofNat 32), .bool false]
theorem gKinds : Tryz.prog.globalNamed "cairn/journal.kinds" = some 1 := by kernel_rfl
theorem tKinds : (Tryz.prog.globals[1]?).map (·.type) = some 148 := by kernel_rfl
set_option maxRecDepth 100000 in
theorem kinds_row {H : Type} {enc : TypeId × Value → H} {w : World} {base : Nat} {sp : Nat → Bool} {held : Bool} {fuel : Nat} {x : DataW H × List MemPlace} {a b c d : Value} {z1 z2 z3 : Int} {t : Bool}
  (h : DataW.trod enc Tryz.prog w base sp held fuel 108 [a, b, c, d] = some x) (hx : x.1 = .agg [.lit (.int .i64 z1), .lit (.int .i64 z2), .lit (.int .i64 z3), .lit (.bool t)]) :
  a = .int .i64 z1 ∧ b = .int .i64 z2 ∧ c = .int .i64 z3 ∧ d = .bool t := by
 obtain ⟨xs, m, _, rfl, _, hn, hf⟩ := DataW.trod_struct (fs := _) (show Tryz.prog.underlying 108 = some (.struct _) from Tryz.underlying108) h
 obtain ⟨x0, x1, x2, x3, rfl⟩ : ∃ x0 x1 x2 x3, xs = [x0, x1, x2, x3] := by
  match xs, hn with
  | [x0, x1, x2, x3], _ => exact ⟨x0, x1, x2, x3, rfl⟩
 have h0 := hf 0 _ rfl
 have h1 := hf 1 _ rfl
 have h2 := hf 2 _ rfl
 have h3 := hf 3 _ rfl
 simp only [List.getElem?_cons_zero, List.getElem?_cons_succ] at h0 h1 h2 h3
 obtain ⟨n0, e0, r0, _⟩ := DataW.trod_int Tryz.underlying3 h0
 obtain ⟨n1, e1, r1, _⟩ := DataW.trod_int Tryz.underlying2 h1
 obtain ⟨n2, e2, r2, _⟩ := DataW.trod_int Tryz.underlying3 h2
 obtain ⟨n3, e3, r3⟩ := DataW.trod_bool Tryz.underlying4 h3
 subst r0 r1 r2 r3
 cases e0; cases e1; cases e2; cases e3
 simp only [List.map, DataW.agg.injEq, List.cons.injEq, DataW.lit.injEq, Lit.int.injEq, Lit.bool.injEq, true_and, and_true] at hx
 obtain ⟨rfl, rfl, rfl, rfl⟩ := hx
 exact ⟨rfl, rfl, rfl, rfl⟩
set_option maxRecDepth 100000 in
theorem kinds_cells {H : Type} {enc : TypeId × Value → H} {w : World} {base : Nat} {sp : Nat → Bool} {held : Bool} {fuel : Nat} {cs : List Value} {p : List MemPlace}
  (h : DataW.trod enc Tryz.prog w base sp held fuel 148 cs = some (Rows.laid_cairn_journal_kinds, p)) : cs = KN := by
 obtain ⟨xs, m, _, hx, hl, hn, hf⟩ := DataW.trod_array Tryz.underlying148 h
 obtain ⟨x0, x1, rfl⟩ : ∃ x0 x1, xs = [x0, x1] := by
  match xs, hn with
  | [x0, x1], _ => exact ⟨x0, x1, rfl⟩
 have c0 : Tryz.prog.cellsOf 148 = 8 := by kernel_rfl
 have c1 : Tryz.prog.cellsOf 108 = 4 := by kernel_rfl
 rw [c0] at hl
 match cs, hl with
 | [a0, a1, a2, a3, a4, a5, a6, a7], _ =>
  have h0 := hf 0 (by decide)
  have h1 := hf 1 (by decide)
  rw [c1] at h0 h1
  have hx1 := congrArg Prod.fst hx
  unfold Rows.laid_cairn_journal_kinds at hx1
  simp only [List.map, DataW.agg.injEq, List.cons.injEq, and_true] at hx1
  obtain ⟨rfl, rfl, rfl, rfl⟩ := kinds_row h0 hx1.1.symm
  obtain ⟨rfl, rfl, rfl, rfl⟩ := kinds_row h1 hx1.2.symm
  rfl
set_option maxRecDepth 100000 in
theorem kinds_met {W : World} {l : List (String × DataW Unit)} (h : laidMet Tryz.prog l W) (m1 : ("cairn/journal.kinds", Rows.laid_cairn_journal_kinds) ∈ l) : ∀ i, W.cell? ⟨1, i, none⟩ = KN[i]? := by
 obtain ⟨g', t', cs, fuel, p, hg', ht', hvar, hd⟩ := Lib.laidMet.reads h m1
 obtain rfl := Option.some.inj (gKinds.symm.trans hg')
 obtain rfl := Option.some.inj (tKinds.symm.trans ht')
 intro i
 have := World.var?_cell gKinds hvar i
 rw [this]
 rw [← kinds_cells hd]
 simp
open Go Go.Ev Go.ChangeShapes Go.WideShapes Go.ChangeAt Go.RowKit
theorem own : ownKnob Tryz.prog.godebug = none := by kernel_rfl
theorem mixed : Tryz.prog.follows .mixedOrders = true := by kernel_rfl
theorem tab_of {W : World} {name : String} {k : IntKind} {zs : List Int} {g : Nat} {t e : TypeId} {n : Nat}
  (hg : Tryz.prog.globalNamed name = some g) (hty : (Tryz.prog.globals[g]?).map (·.type) = some t) (ht : Tryz.prog.underlying t = some (.array n e)) (he : Tryz.prog.underlying e = some (.int k)) (hce : Tryz.prog.cellsOf e = 1) (hct : Tryz.prog.cellsOf t = n)
  (h : Lib.VarReads Tryz.prog W name (Lib.tabData k zs)) : Lib.TabIs Tryz.prog W name k zs := by
 obtain ⟨g', t', cs, fuel, p, hg', ht', hvar, hd⟩ := h
 obtain rfl := Option.some.inj (hg.symm.trans hg')
 obtain rfl := Option.some.inj (hty.symm.trans ht')
 unfold Lib.TabIs
 rw [hvar, ← Lib.cells_of_tab ht he hce hct hd]
def HL : List Nat := [1779033703, 3144134277, 1013904242, 2773480762, 1359893119, 2600822924, 528734635, 1541459225]
def HV : List Value := HL.map fun n => .int .u32 (.ofNat n)
def HI : List Int := [1779033703, 3144134277, 1013904242, 2773480762, 1359893119, 2600822924, 528734635, 1541459225]
def KI : List Int := [1116352408, 1899447441, 3049323471, 3921009573, 961987163, 1508970993, 2453635748, 2870763221, 3624381080, 310598401, 607225278, 1426881987, 1925078388, 2162078206, 2614888103, 3248222580, 3835390401, 4022224774, 264347078, 604807628, 770255983, 1249150122, 1555081692, 1996064986, 2554220882, 2821834349, 2952996808, 3210313671, 3336571891, 3584528711, 113926993, 338241895, 666307205, 773529912, 1294757372, 1396182291, 1695183700, 1986661051, 2177026350, 2456956037, 2730485921, 2820302411, 3259730800, 3345764771, 3516065817, 3600352804, 4094571909, 275423344, 430227734, 506948616, 659060556, 883997877, 958139571, 1322822218, 1537002063, 1747873779, 1955562222, 2024104815, 2227730452, 2361852424, 2428436474, 2756734187, 3204031479, 3329325298]
theorem tab_heap {W : World} {name : String} {g : Nat} {zs : List Int} {ns : List Nat} (hg : Tryz.prog.globalNamed name = some g) (h : Lib.TabIs Tryz.prog W name .u32 zs) (hz : zs = ns.map fun n => ((n : Nat) : Int)) (hn : 0 < ns.length) :
  ∃ c t fr, W.heap[g]? = some (.cells c t fr) ∧ ∀ (i : Nat) (v : Value), (ns.map fun n => (Value.int .u32 (.ofNat n)))[i]? = some v → c[i]? = some v ∧ plain 1 v = true := by
 have hc : ∀ i, i < ns.length → W.cell? ⟨g, i, none⟩ = some (.int .u32 (.ofNat (ns.getD i 0))) := by
  intro i hi
  have := h.cell hg i (by rw [hz, List.length_map]; exact hi)
  rw [this, hz, List.getD_eq_getElem?_getD, List.getElem?_map, List.getD_eq_getElem?_getD, List.getElem?_eq_getElem hi]
  rfl
 have h0 := hc 0 hn
 unfold World.cell? at h0
 split at h0
 case h_2 => cases h0
 rename_i c t fr hw
 refine ⟨c, t, fr, hw, fun i v hv => ?_⟩
 rw [List.getElem?_map] at hv
 rcases Nat.lt_or_ge i ns.length with hi | hi
 ·rw [List.getElem?_eq_getElem hi] at hv
  cases hv
  have h1 := hc i hi
  unfold World.cell? at h1
  rw [hw] at h1
  rw [List.getD_eq_getElem?_getD, List.getElem?_eq_getElem hi] at h1
  exact ⟨h1, rfl⟩
 ·rw [List.getElem?_eq_none hi] at hv; cases hv
theorem gFirst : Tryz.prog.globalNamed "cairn/sha.first" = some 2 := by kernel_rfl
theorem gRoots : Tryz.prog.globalNamed "cairn/sha.roots" = some 3 := by kernel_rfl
theorem tFirst : (Tryz.prog.globals[2]?).map (·.type) = some 177 := by kernel_rfl
theorem tRoots : (Tryz.prog.globals[3]?).map (·.type) = some 193 := by kernel_rfl
theorem cells32 : Tryz.prog.cellsOf 62 = 1 := by kernel_rfl
theorem cells8 : Tryz.prog.cellsOf 177 = 8 := by kernel_rfl
theorem cells64 : Tryz.prog.cellsOf 193 = 64 := by kernel_rfl
def tabs : List (Nat × List Value) := [(1, KN), (2, HV), (3, KV)]
theorem kinds_heap {W : World} (h : ∀ i, W.cell? ⟨1, i, none⟩ = KN[i]?) : ∃ c t fr, W.heap[1]? = some (.cells c t fr) ∧ ∀ (i : Nat) (v : Value), KN[i]? = some v → c[i]? = some v ∧ plain 1 v = true := by
 have h0 := h 0
 unfold World.cell? at h0
 split at h0
 case h_2 => cases h0
 rename_i c t fr hw
 refine ⟨c, t, fr, hw, fun i v hv => ?_⟩
 have h1 := h i
 unfold World.cell? at h1
 rw [hw, hv] at h1
 exact ⟨h1, List.all_eq_true.1 (show KN.all (plain 1) = true by kernel_rfl) v (List.mem_of_getElem? hv)⟩
theorem tabs_met {W : World} {l : List (String × DataW Unit)} (h : laidMet Tryz.prog l W) (m0 : ("cairn/journal.kinds", Rows.laid_cairn_journal_kinds) ∈ l) (m1 : ("cairn/sha.first", Rows.laid_cairn_sha_first) ∈ l) (m2 : ("cairn/sha.roots", Rows.laid_cairn_sha_roots) ∈ l) :
  ∀ p ∈ tabs, p.1 < 1000 ∧ ∃ c t fr, W.heap[p.1]? = some (.cells c t fr) ∧ ∀ (i : Nat) (v : Value), p.2[i]? = some v → c[i]? = some v ∧ plain 1 v = true := by
 have t1 : Lib.TabIs Tryz.prog W "cairn/sha.first" .u32 HI := tab_of gFirst tFirst Tryz.underlying177 Tryz.underlying62 cells32 cells8 (Lib.laidMet.reads h m1)
 have t2 : Lib.TabIs Tryz.prog W "cairn/sha.roots" .u32 KI := tab_of gRoots tRoots Tryz.underlying193 Tryz.underlying62 cells32 cells64 (Lib.laidMet.reads h m2)
 intro p hp
 rcases List.mem_cons.1 hp with rfl | hp
 ·exact ⟨by decide, kinds_heap (kinds_met h m0)⟩
 rcases List.mem_cons.1 hp with rfl | hp
 ·exact ⟨by decide, tab_heap (ns := HL) gFirst t1 (by kernel_rfl) (by decide)⟩
 rcases List.mem_cons.1 hp with rfl | hp
 ·exact ⟨by decide, tab_heap (ns := KL) gRoots t2 (by kernel_rfl) (by decide)⟩
 cases hp
def setCells (c : Array Value) : Obj → Obj
 | .cells _ t frozen => .cells c t frozen
 | o => o
def LaidIs (os : Os) (V : World) : Prop := V = { World.holding Tryz.prog os ⟨#[], #[], []⟩ with heap := (((((World.holding Tryz.prog os ⟨#[], #[], []⟩).heap.modify 1 (setCells ⟨KN⟩)).modify 2 (setCells ⟨HV⟩)).modify 3 (setCells ⟨KV⟩))) }
end Go.Proofs.YtcnhinnpieehoaaGreatDoor.Dg
namespace Go.Sy
def lx : List Nat → List Nat → Int
 | [], [] => 0
 | [], _ :: _ => -1
 | _ :: _, [] => 1
 | a :: A, b :: B => if a = b then lx A B else if a < b then -1 else 1
theorem cmp_lx : ∀ A B : List Nat, cmp A B = lx A B
 | [], [] => rfl
 | [], _ :: _ => rfl
 | _ :: _, [] => rfl
 | a :: A, b :: B => by
  have ih := cmp_lx A B
  rw [lx]
  by_cases h : a = b
  ·rw [if_pos h, ← ih]
   unfold cmp
   rw [com, if_pos h]
   simp only [List.length_cons, Nat.add_right_cancel_iff, List.getD_cons_succ]
  ·rw [if_neg h]
   unfold cmp
   rw [com, if_neg h, if_neg (by simp), if_neg (by simp), if_neg (by simp)]
   rfl
theorem lx_swap : ∀ A B : List Nat, lx B A = - lx A B
 | [], [] => rfl
 | [], _ :: _ => rfl
 | _ :: _, [] => rfl
 | a :: A, b :: B => by
  rw [lx, lx]
  by_cases h : a = b
  ·rw [if_pos h, if_pos h.symm]; exact lx_swap A B
  ·rw [if_neg h, if_neg (Ne.symm h)]
   by_cases k : a < b
   ·rw [if_pos k, if_neg (by omega)]; rfl
   ·rw [if_neg k, if_pos (by omega)]
theorem lx_trans : ∀ {A B C : List Nat}, lx A B ≤ 0 → lx B C ≤ 0 → lx A C ≤ 0 ∧ (lx A C = 0 → lx A B = 0 ∧ lx B C = 0)
 | [], [], C, _, h => ⟨h, fun e => ⟨rfl, e⟩⟩
 | [], _ :: _, [], _, h => by simp [lx] at h
 | [], _ :: _, _ :: _, _, _ => by simp [lx]
 | _ :: _, [], _, h, _ => by simp [lx] at h
 | _ :: _, _ :: _, [], _, h => by simp [lx] at h
 | a :: A, b :: B, c :: C, h, k => by
  simp only [lx] at h k ⊢
  by_cases h1 : a = b
  ·subst h1
   rw [if_pos rfl] at h
   rw [if_pos rfl]
   by_cases h2 : a = c
   ·subst h2
    rw [if_pos rfl] at k ⊢
    rw [if_pos rfl]
    exact lx_trans h k
   ·rw [if_neg h2] at k ⊢
    rw [if_neg h2]
    by_cases h3 : a < c
    ·rw [if_pos h3]; exact ⟨by decide, fun e => by cases e⟩
    ·rw [if_neg h3] at k; exact absurd k (by decide)
  ·rw [if_neg h1] at h ⊢
   by_cases h3 : a < b
   ·rw [if_pos h3] at h ⊢
    by_cases h2 : b = c
    ·subst h2; rw [if_neg h1, if_pos h3]; exact ⟨by decide, fun e => by cases e⟩
    ·rw [if_neg h2] at k
     by_cases h4 : b < c
     ·rw [if_neg (by omega), if_pos (by omega)]; exact ⟨by decide, fun e => by cases e⟩
     ·rw [if_neg h4] at k; exact absurd k (by decide)
   ·rw [if_neg h3] at h; exact absurd h (by decide)
def Lt (A B : List Nat) : Prop := cmp A B < 0
instance (A B : List Nat) : Decidable (Lt A B) := inferInstanceAs (Decidable (cmp A B < 0))
theorem Lt.irrefl (A : List Nat) : ¬ Lt A A := by unfold Lt; rw [cmp_zero.2 rfl]; decide
theorem cmp_swap (A B : List Nat) : cmp B A = - cmp A B := by rw [cmp_lx, cmp_lx, lx_swap]
theorem Lt.asymm {A B : List Nat} (h : Lt A B) : ¬ Lt B A := by unfold Lt at *; rw [cmp_swap]; omega
theorem Lt.ne {A B : List Nat} (h : Lt A B) : A ≠ B := fun e => by subst e; exact Lt.irrefl _ h
theorem Lt.or {A B : List Nat} (h : ¬ Lt A B) : Lt B A ∨ A = B := by
 unfold Lt at *
 rw [← cmp_zero, cmp_swap A B]
 omega
theorem Lt.ltle {A B C : List Nat} (h : Lt A B) (k : ¬ Lt C B) : Lt A C := by
 unfold Lt at *
 rw [cmp_lx] at *
 have k' : lx B C ≤ 0 := by rw [lx_swap C B]; omega
 obtain ⟨a, b⟩ := lx_trans (Int.le_of_lt h) k'
 rcases Int.lt_or_eq_of_le a with a | a
 ·exact a
 ·have := (b a).1; omega
theorem Lt.trans {A B C : List Nat} (h : Lt A B) (k : Lt B C) : Lt A C := h.ltle k.asymm
section
variable {α : Type} (f : α → List Nat)
def Sta (l l' : List α) : Prop := ∀ κ, l'.filter (fun x => decide (f x = κ)) = l.filter (fun x => decide (f x = κ))
def Srt (l : List α) : Prop := l.Pairwise fun x y => ¬ Lt (f y) (f x)
variable {f}
theorem Sta.refl {l : List α} : Sta f l l := fun _ => rfl
theorem Sta.trans {l l1 l2 : List α} (h : Sta f l l1) (k : Sta f l1 l2) : Sta f l l2 := fun κ => (k κ).trans (h κ)
theorem Sta.app {l l' m m' : List α} (h : Sta f l l') (k : Sta f m m') : Sta f (l ++ m) (l' ++ m') := fun κ => by rw [List.filter_append, List.filter_append, h κ, k κ]
theorem Sta.mem {l l' : List α} (h : Sta f l l') (x : α) : x ∈ l' ↔ x ∈ l := by
 have e := h (f x)
 have : ∀ m : List α, x ∈ m ↔ x ∈ m.filter fun y => decide (f y = f x) := fun m => by rw [List.mem_filter]; simp
 rw [this l', this l, e]
theorem Srt.app {l m : List α} (hl : Srt f l) (hm : Srt f m) (h : ∀ x ∈ l, ∀ y ∈ m, ¬ Lt (f y) (f x)) : Srt f (l ++ m) := List.pairwise_append.2 ⟨hl, hm, h⟩
theorem Srt.left {l m : List α} (h : Srt f (l ++ m)) : Srt f l := (List.pairwise_append.1 h).1
theorem Srt.right {l m : List α} (h : Srt f (l ++ m)) : Srt f m := (List.pairwise_append.1 h).2.1
theorem Srt.cross {l m : List α} (h : Srt f (l ++ m)) : ∀ x ∈ l, ∀ y ∈ m, ¬ Lt (f y) (f x) := (List.pairwise_append.1 h).2.2
theorem Srt.put {l m : List α} {x : α} (h : Srt f (l ++ m)) (h1 : ∀ y ∈ l, ¬ Lt (f x) (f y)) (h2 : ∀ y ∈ m, ¬ Lt (f y) (f x)) : Srt f (l ++ x :: m) := by
 refine h.left.app (List.pairwise_cons.2 ⟨h2, h.right⟩) fun a ha b hb => ?_
 rcases List.mem_cons.1 hb with rfl | hb
 ·exact h1 a ha
 ·exact h.cross a ha b hb
def Seg (f : α → List Nat) (l : List α) (lo hi : Nat) : Prop := Srt f ((l.drop lo).take (hi - lo))
theorem Seg.ahead {P M M' R : List α} {lo hi : Nat} (h : Seg f (P ++ M ++ R) lo hi) (hh : hi ≤ P.length) : Seg f (P ++ M' ++ R) lo hi := by
 unfold Seg at *
 by_cases hl : lo ≤ P.length
 ·have e : ∀ Z : List α, ((P ++ Z ++ R).drop lo).take (hi - lo) = (P.drop lo).take (hi - lo) := fun Z => by
   rw [List.append_assoc, List.drop_append_of_le_length hl, List.take_append_of_le_length (by rw [List.length_drop]; omega)]
  rw [e] at *; exact h
 ·rw [show hi - lo = 0 by omega]; exact .nil
theorem Seg.cut {l : List α} {a b b' : Nat} (h : Seg f l a b) (hb : l.length ≤ b') (hbb : b' ≤ b) : Seg f l a b' := by
 unfold Seg at *
 rwa [List.take_of_length_le (by rw [List.length_drop]; omega)] at *
theorem Seg.out {l : List α} {a b b' : Nat} (h : Seg f l a b) (hb : l.length ≤ b) : Seg f l a b' := by
 unfold Seg at *
 rw [List.take_of_length_le (by rw [List.length_drop]; omega)] at h
 exact h.sublist (List.take_sublist _ _)
end
def lst (L : List Ety) (κ : List Nat) : Option Ety := (L.filter fun x => decide (x.1 = κ)).getLast?
end Go.Sy
namespace Go.Sy
open Go Go.Ev
theorem eqV4 {q : Option Addr} {n c : Nat} : eqV 4 (.slice q n c) (.slice q n c) = true := by
 show (q == q && Nat.beq n n && Nat.beq c c) = true
 rw [Nat.beq_refl, Nat.beq_refl, beq_self_eq_true]; rfl
theorem BsV.kpN {s0 s : St} {v : Value} {A : List Nat} (h : BsV s0 v A) (w : Wf s0) (k : Kp (fun c => s0.nx ≤ c) s0 s) : BsV s v A := by
 obtain ⟨q, c, h1, h2, h3⟩ := h
 obtain ⟨γ, h4, h5⟩ := At.sl h2
 exact ⟨q, c, h1, (h4.kp w k (by have := h5 w; omega)).at, h3⟩
abbrev El := (Value × Value) × Ety
def cel (l : List El) : List Value := l.flatMap fun x => [x.1.1, x.1.2]
theorem cel_cons {x : El} {l : List El} : cel (x :: l) = x.1.1 :: x.1.2 :: cel l := rfl
theorem cel_length : ∀ l : List El, (cel l).length = l.length * 2
 | [] => rfl
 | x :: l => by rw [cel_cons, List.length_cons, List.length_cons, cel_length l, List.length_cons]; omega
theorem cel_get : ∀ {l : List El} {i : Nat} {x : El}, l[i]? = some x → ((cel l).drop (i * 2)).take 2 = [x.1.1, x.1.2]
 | [], i, x, h => by simp at h
 | y :: l, 0, x, h => by cases h; rfl
 | y :: l, i + 1, x, h => by rw [cel_cons, show (i + 1) * 2 = i * 2 + 1 + 1 by omega, List.drop_succ_cons, List.drop_succ_cons]; exact cel_get (l := l) h
theorem cel_set : ∀ {l : List El} {i : Nat} {x : El}, i < l.length → lov (cel l) (i * 2) [x.1.1, x.1.2] = cel (l.set i x)
 | [], i, x, h => by simp at h
 | y :: l, 0, x, _ => rfl
 | y :: l, i + 1, x, h => by
  have ih := cel_set (l := l) (i := i) (x := x) (by simpa using h)
  unfold lov at ih ⊢
  rw [cel_cons, show (i + 1) * 2 = i * 2 + 1 + 1 by omega, List.take_succ_cons, List.take_succ_cons, List.set_cons_succ, cel_cons, ← ih, show i * 2 + 1 + 1 + [x.1.1, x.1.2].length = i * 2 + [x.1.1, x.1.2].length + 1 + 1 by omega, List.drop_succ_cons, List.drop_succ_cons]
  rfl
structure Dt (s0 s : St) (b : Nat) (l : List El) (γ : Nat) : Prop where
 w0 : Wf s0
 kp : Kp (fun c => s0.nx ≤ c) s0 s
 rw : Rw s b (cel l) γ
 ge : s0.nx ≤ γ
 ks : ∀ x ∈ l, BsV s0 x.1.1 x.2.1 ∧ BsV s0 x.1.2 x.2.2
section
variable {s0 s s' : St} {b γ : Nat} {l : List El}
theorem Dt.wf (h : Dt s0 s b l γ) : Wf s := h.kp.wf h.w0
theorem Dt.kn (h : Dt s0 s b l γ) (k : Kn s s') : Dt s0 s' b l γ := ⟨h.w0, h.kp.trans (k.mono fun _ e => e.elim), h.rw.kp h.wf k id, h.ge, h.ks⟩
theorem Dt.at (h : Dt s0 s b l γ) : At s (some ⟨b, 0, none⟩) (cel l) := by
 have := (h.rw.sl (o := 0) (n := (cel l).length) (by omega)).at
 rwa [List.drop_zero, List.take_length] at this
theorem Dt.ldn (h : Dt s0 s b l γ) {i : Nat} {x : El} (hx : l[i]? = some x) : ldn s (qadd (some ⟨b, 0, none⟩) (i * 2)) 2 = some [x.1.1, x.1.2] := by
 have hi : i < l.length := (List.getElem?_eq_some_iff.1 hx).1
 rw [At.ldn h.at (by rw [cel_length]; omega) (by decide), cel_get hx]
theorem Dt.el (h : Dt s0 s b l γ) {i : Nat} {x : El} (hx : l[i]? = some x) : ∃ q c q' c', x.1.1 = .slice q x.2.1.length c ∧ x.1.2 = .slice q' x.2.2.length c' ∧ Bs s q x.2.1 ∧ Bs s q' x.2.2 ∧ x.2.1.length < 2 ^ 60 ∧ x.2.2.length < 2 ^ 60 := by
 obtain ⟨h1, h2⟩ := h.ks x (List.mem_of_getElem? hx)
 obtain ⟨q, c, e1, b1, l1⟩ := h1.kpN h.w0 h.kp
 obtain ⟨q', c', e2, b2, l2⟩ := h2.kpN h.w0 h.kp
 exact ⟨q, c, q', c', e1, e2, b1, b2, l1, l2⟩
theorem Dt.one (h : Dt s0 s b l γ) {i : Nat} {x : El} (hx : l[i]? = some x) : ∀ v ∈ [x.1.1, x.1.2], one v = true := by
 obtain ⟨q, c, q', c', e1, e2, _⟩ := h.el hx
 rw [e1, e2]
 intro v hv
 simp only [List.mem_cons, List.not_mem_nil, or_false] at hv
 rcases hv with rfl | rfl <;> rfl
theorem Dt.set (h : Dt s0 s b l γ) {i : Nat} {x : El} (hi : i < l.length) (hr : Rw s' b (lov (cel l) (0 + i * 2) [x.1.1, x.1.2]) γ) (k : Kp (fun c => c = γ) s s') (hx : BsV s0 x.1.1 x.2.1 ∧ BsV s0 x.1.2 x.2.2) : Dt s0 s' b (l.set i x) γ := by
 refine ⟨h.w0, h.kp.trans (k.mono fun c e => by rw [e]; exact h.ge), ?_, h.ge, fun y hy => ?_⟩
 ·rw [Nat.zero_add, cel_set hi] at hr; exact hr
 ·rcases List.mem_or_eq_of_mem_set hy with hy | rfl
  ·exact h.ks y hy
  ·exact hx
theorem Dt.len (_h : Dt s0 s b l γ) {i : Nat} (hi : i < l.length) : 0 + i * 2 + 2 ≤ (cel l).length := by rw [cel_length]; omega
theorem Dt.bs (h : Dt s0 s b l γ) {i : Nat} {x : El} (hx : l[i]? = some x) : BsV s0 x.1.1 x.2.1 ∧ BsV s0 x.1.2 x.2.2 := h.ks x (List.mem_of_getElem? hx)
end
end Go.Sy
namespace Go.Sy
open Go Go.Ev
section
variable {X : Fx} {env : Env} {df : List Deferred} {s : St} {Q : Post}
structure meet {α : Type} (I : α → Env) (S : α → St) (ok : α → Prop) (df : List Deferred) (e : Ex) (env : Env) (df' : List Deferred) (s' : St) : Prop where
 h : e = .normal ∧ ∃ i, ok i ∧ Sub (I i) env ∧ df' = df ∧ s' = S i
theorem meet.n {α : Type} {I : α → Env} {S : α → St} {ok : α → Prop} (i : α) (h : ok i) (h1 : Sub (I i) env) (h2 : s = S i) : meet I S ok df .normal env df s := ⟨rfl, i, h, h1, rfl, h2⟩
theorem meet.go {α : Type} {I : α → Env} {S : α → St} {ok : α → Prop} {rest : Code} (k : ∀ i, ok i → W X rest (I i) df (S i) Q) {e : Ex} {env' : Env} {df' : List Deferred} {s' : St} (m : meet I S ok df e env' df' s') : andThen X rest Q e env' df' s' := by
 obtain ⟨rfl, i, hi, hs, rfl, rfl⟩ := m.h
 exact andThen.n ((k i hi).sub hs)
theorem andThen.mono {c : Code} {Q Q' : Post} (h : ∀ e env df s, Q e env df s → Q' e env df s) {e : Ex} {env : Env} {df : List Deferred} {s : St} (m : andThen X c Q e env df s) : andThen X c Q' e env df s := by
 obtain ⟨m⟩ := m
 refine ⟨?_⟩
 cases e with
 | normal => exact ⟨m.w.mono h⟩
 | ret => exact h _ _ _ _ m
 | exit i => exact h _ _ _ _ m
 | goto i => exact h _ _ _ _ m
theorem W.meet {α : Type} (I : α → Env) (S : α → St) (ok : α → Prop) {c rest : Code} (h : W X c env df s (meet I S ok df)) (k : ∀ i, ok i → W X rest (I i) df (S i) Q) : W X c env df s (andThen X rest Q) := ⟨h.w.mono fun _ _ _ _ m => m.go k⟩
theorem Wo.meet {α : Type} (I : α → Env) (S : α → St) (ok : α → Prop) {all ops : List Oper} {c rest : Code} (h : Wo X all ops env df s (andThen X c (meet I S ok df))) (k : ∀ i, ok i → W X rest (I i) df (S i) Q) : Wo X all ops env df s (andThen X c (andThen X rest Q)) := ⟨h.w.mono fun _ _ _ _ m => m.mono fun _ _ _ _ m => m.go k⟩
theorem Wd.meet {α : Type} (I : α → Env) (S : α → St) (ok : α → Prop) {all : List Oper} {l : List Sp} {past : Past} {c rest : Code} (h : Wd X all l past env df s (andThen X c (meet I S ok df))) (k : ∀ i, ok i → W X rest (I i) df (S i) Q) : Wd X all l past env df s (andThen X c (andThen X rest Q)) := ⟨h.w.mono fun _ _ _ _ m => m.mono fun _ _ _ _ m => m.go k⟩
end
section
variable {α : Type} {f : α → List Nat}
end
end Go.Sy
