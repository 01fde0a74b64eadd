import Derived.Test.YtlhllbggnpcoaaaGreatDoorChecked
import Derived.Shelf.SlSortCmp.NoneTotal
import Derived.Shelf.SlSortCmp.WholeK
import Derived.Test.YtlhllbggnpcoaaaGreatDoorMem
import Derived.Test.YtlhllbggnpcoaaaGreatDoorLibC
import Derived.Test.YtlhllbggnpcoaaaGreatDoorYl2
/-
  slices.SortFunc at pairs and at forgeries: the library's own text stands in this cut.
-/
namespace Go.Proofs.YtlhllbggnpcoaaaGreatDoor
open Go.Shelf Go.RowKit Go.Lib Go.Sort

def sortF_ren : Go.Shelf.Ren := ⟨fun | 6 => 35 | 15 => 61 | 14 => 60 | 28 => 94 | 29 => 95 | 20 => 86 | 21 => 87 | 22 => 88 | 23 => 89 | 24 => 90 | 25 => 91 | 26 => 92 | 27 => 93 | 46 => 120 | 47 => 121 | 48 => 122 | 49 => 123 | 50 => 124 | 57 => 133 | n => n, fun | 22 => 37 | 24 => 73 | 25 => 76 | 3 => 3 | 39 => 99 | 0 => 0 | 53 => 59 | 55 => 137 | 4 => 4 | 46 => 130 | 45 => 129 | 50 => 89 | 5 => 5 | 9 => 9 | 66 => 156 | 70 => 160 | 76 => 166 | 77 => 28 | n => n, fun n => n⟩
theorem sortF : SlLaysF0.n6 Tryz.prog sortF_ren := {
  mixed := by kernel_rfl,
  f6 := ⟨Tryz.f35.name, by decide, Tryz.func35.trans (congrArg some (by kernel_rfl))⟩,
  f14 := ⟨Tryz.f60.name, by decide, Tryz.func60.trans (congrArg some (by kernel_rfl))⟩,
  f15 := Tryz.func61.trans (congrArg some (by kernel_rfl)),
  f20 := ⟨Tryz.f86.name, by decide, Tryz.func86.trans (congrArg some (by kernel_rfl))⟩,
  f21 := ⟨Tryz.f87.name, by decide, Tryz.func87.trans (congrArg some (by kernel_rfl))⟩,
  f22 := ⟨Tryz.f88.name, by decide, Tryz.func88.trans (congrArg some (by kernel_rfl))⟩,
  f23 := ⟨Tryz.f89.name, by decide, Tryz.func89.trans (congrArg some (by kernel_rfl))⟩,
  f24 := ⟨Tryz.f90.name, by decide, Tryz.func90.trans (congrArg some (by kernel_rfl))⟩,
  f25 := ⟨Tryz.f91.name, by decide, Tryz.func91.trans (congrArg some (by kernel_rfl))⟩,
  f26 := ⟨Tryz.f92.name, by decide, Tryz.func92.trans (congrArg some (by kernel_rfl))⟩,
  f27 := ⟨Tryz.f93.name, by decide, Tryz.func93.trans (congrArg some (by kernel_rfl))⟩,
  f28 := Tryz.func94.trans (congrArg some (by kernel_rfl)),
  f29 := Tryz.func95.trans (congrArg some (by kernel_rfl)),
  f46 := ⟨Tryz.f120.name, by decide, Tryz.func120.trans (congrArg some (by kernel_rfl))⟩,
  f47 := Tryz.func121.trans (congrArg some (by kernel_rfl)),
  f48 := Tryz.func122.trans (congrArg some (by kernel_rfl)),
  f49 := ⟨Tryz.f123.name, by decide, Tryz.func123.trans (congrArg some (by kernel_rfl))⟩,
  f50 := ⟨Tryz.f124.name, by decide, Tryz.func124.trans (congrArg some (by kernel_rfl))⟩,
  f57 := ⟨Tryz.f133.name, by decide, Tryz.func133.trans (congrArg some (by kernel_rfl))⟩,
  t0 := Tryz.underlying0,
  a0 := Tryz.isAgg0,
  z0 := Tryz.sizeOf0,
  v0 := Tryz.zeroValue0,
  t3 := Tryz.underlying3,
  a3 := Tryz.isAgg3,
  z3 := Tryz.sizeOf3,
  v3 := Tryz.zeroValue3,
  t4 := Tryz.underlying4,
  a4 := Tryz.isAgg4,
  z4 := Tryz.sizeOf4,
  v4 := Tryz.zeroValue4,
  t5 := Tryz.underlying5,
  a5 := Tryz.isAgg5,
  z5 := Tryz.sizeOf5,
  v5 := Tryz.zeroValue5,
  t9 := Tryz.underlying9,
  a9 := Tryz.isAgg9,
  z9 := Tryz.sizeOf9,
  v9 := Tryz.zeroValue9,
  t22 := Tryz.underlying37,
  a22 := Tryz.isAgg37,
  z22 := Tryz.sizeOf37,
  v22 := Tryz.zeroValue37,
  t25 := Tryz.underlying76,
  a25 := Tryz.isAgg76,
  z25 := Tryz.sizeOf76,
  v25 := Tryz.zeroValue76,
  t39 := Tryz.underlying99,
  a39 := Tryz.isAgg99,
  z39 := Tryz.sizeOf99,
  v39 := Tryz.zeroValue99,
  t45 := Tryz.underlying129,
  a45 := Tryz.isAgg129,
  z45 := Tryz.sizeOf129,
  v45 := Tryz.zeroValue129,
  t46 := Tryz.underlying130,
  a46 := Tryz.isAgg130,
  z46 := Tryz.sizeOf130,
  v46 := Tryz.zeroValue130,
  t50 := Tryz.underlying89,
  a50 := Tryz.isAgg89,
  z50 := Tryz.sizeOf89,
  v50 := Tryz.zeroValue89,
  t53 := Tryz.underlying59,
  a53 := Tryz.isAgg59,
  z53 := Tryz.sizeOf59,
  v53 := Tryz.zeroValue59,
  t55 := Tryz.underlying137,
  a55 := Tryz.isAgg137,
  z55 := Tryz.sizeOf137,
  v55 := Tryz.zeroValue137,
  t66 := Tryz.underlying156,
  a66 := Tryz.isAgg156,
  z66 := Tryz.sizeOf156,
  v66 := Tryz.zeroValue156,
  t70 := Tryz.underlying160,
  a70 := Tryz.isAgg160,
  z70 := Tryz.sizeOf160,
  v70 := Tryz.zeroValue160,
  t76 := Tryz.underlying166,
  a76 := Tryz.isAgg166,
  z76 := Tryz.sizeOf166,
  v76 := Tryz.zeroValue166,
  t77 := Tryz.underlying28,
  a77 := Tryz.isAgg28,
  z77 := Tryz.sizeOf28,
  v77 := Tryz.zeroValue28 }
def sortP_ren : Go.Shelf.Ren := ⟨fun | 6 => 58 | 15 => 61 | 14 => 85 | 28 => 94 | 29 => 95 | 20 => 112 | 21 => 113 | 22 => 114 | 23 => 115 | 24 => 116 | 25 => 117 | 26 => 118 | 27 => 119 | 46 => 130 | 47 => 121 | 48 => 122 | 49 => 131 | 50 => 132 | 57 => 136 | n => n, fun | 22 => 35 | 24 => 94 | 25 => 96 | 3 => 3 | 39 => 99 | 0 => 0 | 53 => 59 | 55 => 137 | 4 => 4 | 46 => 130 | 45 => 129 | 50 => 89 | 5 => 5 | 9 => 9 | 66 => 156 | 70 => 160 | 76 => 166 | 77 => 28 | n => n, fun n => n⟩
theorem sortP : SlLaysF0.n6 Tryz.prog sortP_ren := {
  mixed := by kernel_rfl,
  f6 := ⟨Tryz.f58.name, by decide, Tryz.func58.trans (congrArg some (by kernel_rfl))⟩,
  f14 := ⟨Tryz.f85.name, by decide, Tryz.func85.trans (congrArg some (by kernel_rfl))⟩,
  f15 := Tryz.func61.trans (congrArg some (by kernel_rfl)),
  f20 := ⟨Tryz.f112.name, by decide, Tryz.func112.trans (congrArg some (by kernel_rfl))⟩,
  f21 := ⟨Tryz.f113.name, by decide, Tryz.func113.trans (congrArg some (by kernel_rfl))⟩,
  f22 := ⟨Tryz.f114.name, by decide, Tryz.func114.trans (congrArg some (by kernel_rfl))⟩,
  f23 := ⟨Tryz.f115.name, by decide, Tryz.func115.trans (congrArg some (by kernel_rfl))⟩,
  f24 := ⟨Tryz.f116.name, by decide, Tryz.func116.trans (congrArg some (by kernel_rfl))⟩,
  f25 := ⟨Tryz.f117.name, by decide, Tryz.func117.trans (congrArg some (by kernel_rfl))⟩,
  f26 := ⟨Tryz.f118.name, by decide, Tryz.func118.trans (congrArg some (by kernel_rfl))⟩,
  f27 := ⟨Tryz.f119.name, by decide, Tryz.func119.trans (congrArg some (by kernel_rfl))⟩,
  f28 := Tryz.func94.trans (congrArg some (by kernel_rfl)),
  f29 := Tryz.func95.trans (congrArg some (by kernel_rfl)),
  f46 := ⟨Tryz.f130.name, by decide, Tryz.func130.trans (congrArg some (by kernel_rfl))⟩,
  f47 := Tryz.func121.trans (congrArg some (by kernel_rfl)),
  f48 := Tryz.func122.trans (congrArg some (by kernel_rfl)),
  f49 := ⟨Tryz.f131.name, by decide, Tryz.func131.trans (congrArg some (by kernel_rfl))⟩,
  f50 := ⟨Tryz.f132.name, by decide, Tryz.func132.trans (congrArg some (by kernel_rfl))⟩,
  f57 := ⟨Tryz.f136.name, by decide, Tryz.func136.trans (congrArg some (by kernel_rfl))⟩,
  t0 := Tryz.underlying0,
  a0 := Tryz.isAgg0,
  z0 := Tryz.sizeOf0,
  v0 := Tryz.zeroValue0,
  t3 := Tryz.underlying3,
  a3 := Tryz.isAgg3,
  z3 := Tryz.sizeOf3,
  v3 := Tryz.zeroValue3,
  t4 := Tryz.underlying4,
  a4 := Tryz.isAgg4,
  z4 := Tryz.sizeOf4,
  v4 := Tryz.zeroValue4,
  t5 := Tryz.underlying5,
  a5 := Tryz.isAgg5,
  z5 := Tryz.sizeOf5,
  v5 := Tryz.zeroValue5,
  t9 := Tryz.underlying9,
  a9 := Tryz.isAgg9,
  z9 := Tryz.sizeOf9,
  v9 := Tryz.zeroValue9,
  t22 := Tryz.underlying35,
  a22 := Tryz.isAgg35,
  z22 := Tryz.sizeOf35,
  v22 := Tryz.zeroValue35,
  t25 := Tryz.underlying96,
  a25 := Tryz.isAgg96,
  z25 := Tryz.sizeOf96,
  v25 := Tryz.zeroValue96,
  t39 := Tryz.underlying99,
  a39 := Tryz.isAgg99,
  z39 := Tryz.sizeOf99,
  v39 := Tryz.zeroValue99,
  t45 := Tryz.underlying129,
  a45 := Tryz.isAgg129,
  z45 := Tryz.sizeOf129,
  v45 := Tryz.zeroValue129,
  t46 := Tryz.underlying130,
  a46 := Tryz.isAgg130,
  z46 := Tryz.sizeOf130,
  v46 := Tryz.zeroValue130,
  t50 := Tryz.underlying89,
  a50 := Tryz.isAgg89,
  z50 := Tryz.sizeOf89,
  v50 := Tryz.zeroValue89,
  t53 := Tryz.underlying59,
  a53 := Tryz.isAgg59,
  z53 := Tryz.sizeOf59,
  v53 := Tryz.zeroValue59,
  t55 := Tryz.underlying137,
  a55 := Tryz.isAgg137,
  z55 := Tryz.sizeOf137,
  v55 := Tryz.zeroValue137,
  t66 := Tryz.underlying156,
  a66 := Tryz.isAgg156,
  z66 := Tryz.sizeOf156,
  v66 := Tryz.zeroValue156,
  t70 := Tryz.underlying160,
  a70 := Tryz.isAgg160,
  z70 := Tryz.sizeOf160,
  v70 := Tryz.zeroValue160,
  t76 := Tryz.underlying166,
  a76 := Tryz.isAgg166,
  z76 := Tryz.sizeOf166,
  v76 := Tryz.zeroValue166,
  t77 := Tryz.underlying28,
  a77 := Tryz.isAgg28,
  z77 := Tryz.sizeOf28,
  v77 := Tryz.zeroValue28 }
end Go.Proofs.YtlhllbggnpcoaaaGreatDoor

/-
  A row of structs that the call owns, sorted.
-/
namespace Go.Proofs.YtlhllbggnpcoaaaGreatDoor
open Go.RowKit Go.Sort Go.Shelf Go.Lib

section
variable {α : Type} [Inhabited α] (enc : α → List Value) (k : Nat) (hk : ∀ x, (enc x).length = k) (h0 : 0 < k)
include hk h0
theorem flat_get : ∀ (l : List α) (j : Nat), j < l.length * k → (l.flatMap enc)[j]? = some ((enc l[j / k]!)[j % k]!)
  | [], j, h => by simp at h
  | x :: l, j, h => by
    rw [List.flatMap_cons]
    by_cases hj : j < k
    · rw [List.getElem?_append_left (by rw [hk]; exact hj), Nat.div_eq_of_lt hj, Nat.mod_eq_of_lt hj]
      have : j < (enc x).length := by rw [hk]; exact hj
      show (enc x)[j]? = some ((enc x)[j]!)
      rw [List.getElem?_eq_getElem this, getElem!_pos (enc x) j this]
    · rw [List.getElem?_append_right (by rw [hk]; omega), hk, flat_get l (j - k) (by simp only [List.length_cons, Nat.succ_mul] at h; omega)]
      have e : j = (j - k) + k := by omega
      have e1 : j / k = (j - k) / k + 1 := by rw [e, Nat.add_div_right _ h0, Nat.add_sub_cancel]
      have e2 : j % k = (j - k) % k := by rw [e, Nat.add_mod_right, Nat.add_sub_cancel]
      rw [e1, e2]
      rfl
omit [Inhabited α] h0 in
theorem flat_len (l : List α) : (l.flatMap enc).length = l.length * k := by
  induction l with
  | nil => simp
  | cons x l ih => rw [List.flatMap_cons, List.length_append, ih, hk, List.length_cons, Nat.succ_mul, Nat.add_comm]
theorem flatK_at (d : Array α) (j : Nat) (h : j < d.size * k) : (d.toList.flatMap enc)[j]? = some ((flatK enc k d)[j]!) := by
  rw [flat_get enc k hk h0 d.toList j (by simpa using h), get_flatK enc k d j h]
  have : d.toList[j / k]! = d[j / k]! := by
    rw [List.getElem!_eq_getElem?_getD, getElem!_def]
    simp only [Array.getElem?_toList]
    cases d[j / k]? <;> rfl
  rw [this]

variable {w : World} {B e g cap : Nat} {d : Array α}
theorem own_holds (h : w.ownsRow B e k (.slice (some ⟨g, 0, none⟩) d.size cap) d.size (d.toList.flatMap enc)) : HoldsK enc k w g 0 d ∧ g < w.heap.size ∧ B ≤ g := by
  rcases h.2 with ⟨h1, _⟩ | ⟨g', cap', cur, h1, hb, hg, hn, hm, hs, ht⟩
  · simp at h1
  · simp only [Value.slice.injEq, Option.some.injEq, Addr.mk.injEq, and_true, true_and] at h1
    obtain ⟨rfl, rfl⟩ := h1
    refine ⟨fun j hj => ?_, (Array.getElem?_eq_some_iff.1 hg).1, hb⟩
    rw [size_flatK] at hj
    have hc := flatK_at enc k hk h0 d j hj
    rw [← ht, List.getElem?_take, if_pos hj, Array.getElem?_toList] at hc
    refine ⟨?_, ?_⟩
    · rw [Nat.zero_add, cell_of_row w g j cur e (0, 0) hg]
      exact hc
    · rw [World.frozen?, hg]
      simp
theorem own_sorted (h : w.ownsRow B e k (.slice (some ⟨g, 0, none⟩) d.size cap) d.size (d.toList.flatMap enc)) (d' : Array α) (hd : d'.size = d.size) (m : Nat) (os : Array Obj) :
    (sortWorldK enc k w g 0 m d' os).ownsRow B e k (.slice (some ⟨g, 0, none⟩) d.size cap) d.size (d'.toList.flatMap enc) ∧ Turn (fun i => i = g) w (sortWorldK enc k w g 0 m d' os) := by
  rcases h.2 with ⟨h1, _⟩ | ⟨g', cap', cur, h1, hb, hg, hn, hm, hs, ht⟩
  · simp at h1
  · simp only [Value.slice.injEq, Option.some.injEq, Addr.mk.injEq, and_true, true_and] at h1
    obtain ⟨rfl, rfl⟩ := h1
    have hl : g < w.heap.size := (Array.getElem?_eq_some_iff.1 hg).1
    have hsz : (putRowK enc k (Sort.ahead w m) g 0 d').heap.size = w.heap.size := by unfold putRowK; rw [size_putRow]; rfl
    have blk : ∀ i, i < w.heap.size → (sortWorldK enc k w g 0 m d' os).heap[i]? = (putRowK enc k (Sort.ahead w m) g 0 d').heap[i]? := fun i hi => by
      unfold sortWorldK grow
      exact Array.getElem?_append_left (by rw [hsz]; exact hi)
    refine ⟨⟨by rw [flat_len enc k hk]; simp [hd], .inr ⟨g, cap, putCells id 0 (flatK enc k d') cur, rfl, hb, ?_, hn, hm, by simp [putCells, hs], ?_⟩⟩, rfl, rfl, rfl, ?_, fun i hi hne => ?_⟩
    · rw [blk g hl]
      show ((w.heap.modify g _)[g]?) = _
      rw [Array.getElem?_modify, if_pos rfl, hg]
      rfl
    · apply List.ext_getElem?
      intro j
      by_cases hj : j < d.size * k
      · rw [List.getElem?_take, if_pos hj, Array.getElem?_toList, flatK_at enc k hk h0 d' j (by rw [hd]; exact hj)]
        have hjc : j < cur.size := by rw [hs]; exact Nat.lt_of_lt_of_le hj (Nat.mul_le_mul_right _ hn)
        unfold putCells
        rw [Array.getElem?_mapIdx, Array.getElem?_eq_getElem hjc]
        simp only [Option.map_some, Nat.zero_le, true_and, Nat.zero_add, size_flatK, hd, hj, if_true, id, Nat.sub_zero]
      · rw [List.getElem?_eq_none (by rw [List.length_take]; omega), List.getElem?_eq_none (by rw [flat_len enc k hk]; simp [hd]; omega)]
    · unfold sortWorldK grow
      simp only [Array.size_append]
      rw [hsz]
      omega
    · rw [blk i hi]
      show ((w.heap.modify g _)[i]?) = _
      rw [Array.getElem?_modify, if_neg (fun q => hne q.symm)]
end
end Go.Proofs.YtlhllbggnpcoaaaGreatDoor

/-
  Pairs in memory, and slices.SortFunc of them.
-/
namespace Go.Proofs.YtlhllbggnpcoaaaGreatDoor
open Go.RowKit Go.Sort Go.Maps

/-- a pair: its two slices, and what they hold -/
structure PR where
  ua : Value
  a : List Nat
  ub : Value
  b : List Nat
def PR.enc (q : PR) : List Value := [q.ua, q.ub]
def PR.ab (q : PR) : List Nat × List Nat := (q.a, q.b)
structure POk (w : World) (B : Nat) (q : PR) : Prop where
  sa : Str w (fun i => B ≤ i) q.ua q.a
  sb : Str w (fun i => B ≤ i) q.ub q.b
def cfP (p q : List Nat × List Nat) : Int := if cmpL p.1 q.1 ≠ 0 then cmpL p.1 q.1 else cmpL p.2 q.2

theorem POk.turn {G : Nat → Prop} {w w' : World} {B : Nat} {q : PR} (h : POk w B q) (t : Turn G w w') (hG : ∀ i, G i → i < w.heap.size → ∃ o, w.heap[i]? = some o ∧ ∀ cs fz, o ≠ .cells cs 5 fz) : POk w' B q := by
  have hn : ∀ {u : Value} {s : List Nat}, Str w (fun i => B ≤ i) u s → Str w' (fun i => B ≤ i) u s := fun hs => ⟨own_turn hs.own t (fun g hg hGg => by
    obtain ⟨o, ho, hne⟩ := hG g hGg (hs.own.lt g hg).2
    obtain ⟨cur, hc⟩ := own_block hs.own hg
    rw [hc] at ho
    exact hne _ _ (Option.some.inj ho).symm), hs.foot, hs.ok⟩
  exact ⟨hn h.sa, hn h.sb⟩

set_option maxRecDepth 100000 in
set_option maxHeartbeats 1600000 in
theorem comparePairs_any (W : World) (B : Nat) (x y : PR) (hx : POk W B x) (hy : POk W B y) :
    Calls Tryz.prog 59 #[.agg #[x.ua, x.ub], .agg #[y.ua, y.ub]] W fun e w' => e = .returned (.int .i64 (cfP x.ab y.ab)) ∧ ∃ q os', w' = grow (W.drewN q) os' := by
  obtain ⟨ua, a, ub, b⟩ := x
  obtain ⟨va, c, vb, d⟩ := y
  have xa : Str W (fun i => B ≤ i) ua a := hx.sa
  have xb : Str W (fun i => B ≤ i) ub b := hx.sb
  have ya : Str W (fun i => B ≤ i) va c := hy.sa
  have yb : Str W (fun i => B ≤ i) vb d := hy.sb
  clear hx hy
  obtain ⟨pa, ga, ca, rfl, _, wa, _⟩ := xa.view
  obtain ⟨pb, gb, cb, rfl, _, wb, _⟩ := xb.view
  obtain ⟨pc, gc, cc, rfl, _, wc, _⟩ := ya.view
  obtain ⟨pd, gd, cd, rfl, _, wd, _⟩ := yb.view
  have hb : Below W.heap.size W ((W.alloc (.cells #[.slice pa a.length ca, .slice pb b.length cb] 94)).alloc (.cells #[.slice pc c.length cc, .slice pd d.length cd] 94)) := ((Below.refl _ _).alloc (Nat.le_refl _) _).alloc (by simp) _
  have c1 := compare_any _ pa pc ga 0 ca gc 0 cc a c (wa.below hb) (wc.below hb)
  have c2 := compare_any _ pb pd gb 0 cb gd 0 cd b d (wb.below hb) (wd.below hb)
  have HE : Hid (∃ q os', ((W.alloc (.cells #[.slice pa a.length ca, .slice pb b.length cb] 94)).alloc (.cells #[.slice pc c.length cc, .slice pd d.length cd] 94)) = grow (W.drewN q) os') := ⟨0, _, by rw [alloc_eq_grow, alloc_eq_grow, grow_grow]; rfl⟩
  clear xa xb ya yb wa wb wc wd hb
  show Calls Tryz.prog 59 #[.agg #[.slice pa a.length ca, .slice pb b.length cb], .agg #[.slice pc c.length cc, .slice pd d.length cd]] W _
  have e0 : cfP (PR.ab ⟨.slice pa a.length ca, a, .slice pb b.length cb, b⟩) (PR.ab ⟨.slice pc c.length cc, c, .slice pd d.length cd, d⟩) = if cmpL a c ≠ 0 then cmpL a c else cmpL b d := rfl
  rw [e0]
  clear e0
  generalize cmpL a c = r1 at c1 ⊢
  generalize cmpL b d = r2 at c2 ⊢
  generalize a.length = n1 at c1 c2 HE ⊢
  generalize b.length = n2 at c1 c2 HE ⊢
  generalize c.length = n3 at c1 c2 HE ⊢
  generalize d.length = n4 at c1 c2 HE ⊢
  by_cases h1 : r1 = 0
  · subst h1
    go_enter Tryz.func59, Tryz.ntmps59
    go_wp2_with (first
      | (refine c1.mono ?_; rintro _ w' ⟨rfl, hw'⟩; have hw'' := hw'.symm; subst hw'')
      | (refine c2.mono ?_; rintro _ w' ⟨rfl, hw'⟩; have hw'' := hw'.symm; subst hw''))
    go_ret
    exact ⟨rfl, HE.out⟩
  · go_enter Tryz.func59, Tryz.ntmps59
    go_wp2_with (first
      | (refine c1.mono ?_; rintro _ w' ⟨rfl, hw'⟩; have hw'' := hw'.symm; subst hw'')
      | (refine c2.mono ?_; rintro _ w' ⟨rfl, hw'⟩; have hw'' := hw'.symm; subst hw''))
    go_ret
    exact ⟨rfl, HE.out⟩

/-- the pairs that are good in a world -/
abbrev OkP (w : World) (B : Nat) : Type := { q : PR // POk w B q }
theorem nil_str (w : World) (F : Nat → Prop) : Str w F nilS [] := ⟨World.ownsRow_nil _ _ _ _, fun g hg => by simp [nilS, Value.ownBlock] at hg, by decide, by simp⟩
instance (w : World) (B : Nat) : Inhabited (OkP w B) := ⟨⟨⟨nilS, [], nilS, []⟩, nil_str _ _, nil_str _ _⟩⟩
def encP {w : World} {B : Nat} (x : OkP w B) : List Value := x.1.enc
def cfPP {w : World} {B : Nat} (x y : OkP w B) : Int := cfP x.1.ab y.1.ab
theorem cfP_lt (p q : List Nat × List Nat) : cfP p q < 0 ↔ ltP p q := by
  unfold cfP ltP
  by_cases h : cmpL p.1 q.1 = 0
  · rw [if_neg (fun k => k h)]
    have e := cmpL_zero.1 h
    rw [e]
    exact ⟨fun k => Or.inr ⟨rfl, k⟩, fun k => k.elim (fun z => absurd z (lt_irrefl _)) (fun z => z.2)⟩
  · rw [if_pos h]
    refine ⟨fun k => Or.inl k, fun k => k.elim id (fun z => absurd (cmpL_zero.2 z.1) h)⟩
theorem swoP {w : World} {B : Nat} : SWO (ltOf (cfPP (w := w) (B := B))) := by
  have e : ∀ x y : OkP w B, ltOf cfPP x y = true ↔ ltP x.1.ab y.1.ab := fun x y => by
    unfold ltOf cfPP
    rw [decide_eq_true_eq]
    exact cfP_lt _ _
  have f : ∀ x y : OkP w B, ltOf cfPP x y = false ↔ ¬ ltP x.1.ab y.1.ab := fun x y => by rw [← e, Bool.not_eq_true]
  refine ⟨fun x => ?_, fun x y z => ?_, fun x y z => ?_⟩
  · rw [f]; exact ltP_irrefl _
  · rw [e, e, e]; exact ltP_trans _ _ _
  · rw [f, f, f]
    intro h1 h2 h3
    rcases ltP_tri x.1.ab y.1.ab with q | q | q
    · exact h1 q
    · rw [q] at h3; exact h2 h3
    · exact h2 (ltP_trans _ _ _ q h3)

theorem infoP : (Tryz.prog.info? 94).map (fun i => (i.zero, i.size, i.bytes)) = some (some (.agg #[nilS, nilS]), 2, 48) := by kernel_rfl

/-- PAIRS THAT THE CALL OWNS, SORTED. -/
theorem sortPairs (w : World) (B g cap : Nat) (Q : List PR) (own : w.ownsRow B 94 2 (.slice (some ⟨g, 0, none⟩) Q.length cap) Q.length (Q.flatMap PR.enc)) (ok : ∀ q ∈ Q, POk w B q) (hl : Q.length < 4611686018427387904) :
    Calls Tryz.prog 58 #[.slice (some ⟨g, 0, none⟩) Q.length cap, .func (.func 59) #[] #[]] w fun e w' => e = .returned (.tuple #[]) ∧
      ∃ Q' : List PR, Q'.Perm Q ∧ Q'.Pairwise (fun x y => ¬ ltP y.ab x.ab) ∧ w'.ownsRow B 94 2 (.slice (some ⟨g, 0, none⟩) Q'.length cap) Q'.length (Q'.flatMap PR.enc) ∧ (∀ q ∈ Q', POk w' B q) ∧ Turn (fun i => i = g) w w' := by
  have hk : ∀ x : OkP w B, (encP x).length = 2 := fun _ => rfl
  have fm : ∀ l : List (OkP w B), l.flatMap encP = (l.map (·.1)).flatMap PR.enc := fun l => by rw [List.flatMap_map]; rfl
  obtain ⟨l, rfl⟩ : ∃ l : List (OkP w B), Q = l.map (·.1) := ⟨Q.attach.map (fun q => ⟨q.1, ok q.1 q.2⟩), by simp⟩
  have el : (l.map (·.1)).length = l.toArray.size := by simp
  have own' : w.ownsRow B 94 2 (.slice (some ⟨g, 0, none⟩) l.toArray.size cap) l.toArray.size (l.toArray.toList.flatMap encP) := by rw [fm]; rw [el] at own; exact own
  obtain ⟨hH, hg, hB⟩ := own_holds encP 2 hk (by decide) own'
  have rowT : ∀ i, i = g → i < w.heap.size → ∃ o, w.heap[i]? = some o ∧ ∀ cs fz, o ≠ .cells cs 5 fz := fun i hi _ => by
    subst hi
    obtain ⟨cur, hc⟩ := own_block own' (g := i) rfl
    exact ⟨_, hc, fun cs fz z => by injection z with _ z; exact absurd z (by decide)⟩
  have eg : ∀ args w, (callFunc 59 args).run Tryz.prog w = .ok (.enter 59 args) w := enters_of Tryz.func59 (by kernel_rfl) rfl
  have lays : CmpLays Tryz.prog 59 #[] (encP (w := w) (B := B)) 2 cfPP g 0 l.toArray.size w := fun m os dk hs x y => by
    have tn := (own_sorted encP 2 hk (by decide) own' dk hs m os).2
    exact comparePairs_any _ B x.1 y.1 (x.2.turn tn rowT) (y.2.turn tn rowT)
  have hcon := AnyQ.slices_SortFunc sortP 2 Tryz.isAgg94 Tryz.sizeOf94 (encP (w := w) (B := B)) hk (fun x v hv => by
      simp only [encP, PR.enc, List.mem_cons, List.not_mem_nil, or_false] at hv
      rcases hv with rfl | rfl
      · exact x.2.sa.one
      · exact x.2.sb.one) cfPP swoP 59 #[] g 0 cap l.toArray w eg lays hH hg (by rw [← el]; exact hl)
  change Calls Tryz.prog 58 _ _ _ at hcon
  rw [el]
  refine hcon.mono ?_
  rintro e w' ⟨rfl, d', n, os, hp, hs, rfl⟩
  obtain ⟨o1, t1⟩ := own_sorted encP 2 hk (by decide) own' d' hp.1 n os
  have ex : ∀ d : Array (OkP w B), d.size = l.toArray.size → (d.extract 0 l.toArray.size).toList = d.toList := fun d h => by rw [← h]; simp
  have hperm : d'.toList.Perm l := by
    have := hp.2.2
    rw [ex d' hp.1, ex _ rfl] at this
    simpa using this
  have el' : (d'.toList.map (·.1)).length = l.toArray.size := by simp [hp.1]
  refine ⟨rfl, d'.toList.map (·.1), hperm.map _, ?_, ?_, fun q hq => ?_, t1⟩
  · rw [List.pairwise_map, List.pairwise_iff_getElem]
    intro i j hi hj hij
    have h2 := hs i j (Nat.zero_le _) hij (by rw [← hp.1]; simpa using hj)
    have hi' : i < d'.size := by simpa using hi
    have hj' : j < d'.size := by simpa using hj
    rw [getElem!_pos d' i hi', getElem!_pos d' j hj'] at h2
    unfold ltOf cfPP at h2
    rw [decide_eq_false_iff_not, cfP_lt] at h2
    simpa using h2
  · rw [el', ← fm]
    exact o1
  · obtain ⟨x, hx, rfl⟩ := List.mem_map.1 hq
    exact x.2.turn t1 rowT
end Go.Proofs.YtlhllbggnpcoaaaGreatDoor
