import Derived.Test.YtnbdpcpgckfeeaaGreatDoorWf1zz
import Derived.Shelf.SlSortCmp.NoneTotal
import Derived.Shelf.SlSortCmp.WholeK
namespace Go.Proofs.YtnbdpcpgckfeeaaGreatDoor
open Go Go.RowKit Go.Maps Go.Sort Go.Shelf Go.Lib
set_option maxRecDepth 100000
section
variable {α : Type} [Inhabited α] (enc : α → List Value) (k : Nat) (hk : ∀ x, (enc x).length = k) (h0 : 0 < k)
include hk h0
theorem flat_get : ∀ (l : List α) (j : Nat), j < l.length * k → (l.flatMap enc)[j]? = some ((enc l[j / k]!)[j % k]!)
 | [], j, h => by simp at h
 | x :: l, j, h => by
  rw [List.flatMap_cons]
  by_cases hj : j < k
  ·rw [List.getElem?_append_left (by rw [hk]; exact hj), Nat.div_eq_of_lt hj, Nat.mod_eq_of_lt hj]
   have : j < (enc x).length := by rw [hk]; exact hj
   show (enc x)[j]? = some ((enc x)[j]!)
   rw [List.getElem?_eq_getElem this, getElem!_pos (enc x) j this]
  ·rw [List.getElem?_append_right (by rw [hk]; omega), hk, flat_get l (j - k) (by simp only [List.length_cons, Nat.succ_mul] at h; omega)]
   have e : j = (j - k) + k := by omega
   have e1 : j / k = (j - k) / k + 1 := by rw [e, Nat.add_div_right _ h0, Nat.add_sub_cancel]
   have e2 : j % k = (j - k) % k := by rw [e, Nat.add_mod_right, Nat.add_sub_cancel]
   rw [e1, e2]
   rfl
omit [Inhabited α] h0 in
theorem flat_len (l : List α) : (l.flatMap enc).length = l.length * k := by
 induction l with
 | nil => simp
 | cons x l ih => rw [List.flatMap_cons, List.length_append, ih, hk, List.length_cons, Nat.succ_mul, Nat.add_comm]
theorem flatK_at (d : Array α) (j : Nat) (h : j < d.size * k) : (d.toList.flatMap enc)[j]? = some ((flatK enc k d)[j]!) := by
 rw [flat_get enc k hk h0 d.toList j (by simpa using h), get_flatK enc k d j h]
 have : d.toList[j / k]! = d[j / k]! := by
  rw [List.getElem!_eq_getElem?_getD, getElem!_def]
  simp only [Array.getElem?_toList]
  cases d[j / k]? <;> rfl
 rw [this]
variable {w : World} {B e g cap : Nat} {d : Array α}
theorem own_holds (h : w.ownsRow B e k (.slice (some ⟨g, 0, none⟩) d.size cap) d.size (d.toList.flatMap enc)) : HoldsK enc k w g 0 d ∧ g < w.heap.size ∧ B ≤ g := by
 rcases h.2 with ⟨h1, _⟩ | ⟨g', cap', cur, h1, hb, hg, hn, hm, hs, ht⟩
 ·simp at h1
 ·simp only [Value.slice.injEq, Option.some.injEq, Addr.mk.injEq, and_true, true_and] at h1
  obtain ⟨rfl, rfl⟩ := h1
  refine ⟨fun j hj => ?_, (Array.getElem?_eq_some_iff.1 hg).1, hb⟩
  rw [size_flatK] at hj
  have hc := flatK_at enc k hk h0 d j hj
  rw [← ht, List.getElem?_take, if_pos hj, Array.getElem?_toList] at hc
  refine ⟨?_, ?_⟩
  ·rw [Nat.zero_add, cell_of_row w g j cur e (0, 0) hg]
   exact hc
  ·rw [World.frozen?, hg]
   simp
theorem own_sorted (h : w.ownsRow B e k (.slice (some ⟨g, 0, none⟩) d.size cap) d.size (d.toList.flatMap enc)) (d' : Array α) (hd : d'.size = d.size) (m : Nat) (os : Array Obj) :
  (sortWorldK enc k w g 0 m d' os).ownsRow B e k (.slice (some ⟨g, 0, none⟩) d.size cap) d.size (d'.toList.flatMap enc) ∧ w.grownBy (sortWorldK enc k w g 0 m d' os) (some g) := by
 rcases h.2 with ⟨h1, _⟩ | ⟨g', cap', cur, h1, hb, hg, hn, hm, hs, ht⟩
 ·simp at h1
 ·simp only [Value.slice.injEq, Option.some.injEq, Addr.mk.injEq, and_true, true_and] at h1
  obtain ⟨rfl, rfl⟩ := h1
  have hl : g < w.heap.size := (Array.getElem?_eq_some_iff.1 hg).1
  have hsz : (putRowK enc k (Sort.ahead w m) g 0 d').heap.size = w.heap.size := by unfold putRowK; rw [size_putRow]; rfl
  have blk : ∀ i, i < w.heap.size → (sortWorldK enc k w g 0 m d' os).heap[i]? = (putRowK enc k (Sort.ahead w m) g 0 d').heap[i]? := fun i hi => by
   unfold sortWorldK grow
   exact Array.getElem?_append_left (by rw [hsz]; exact hi)
  refine ⟨⟨by rw [flat_len enc k hk]; simp [hd], .inr ⟨g, cap, putCells id 0 (flatK enc k d') cur, rfl, hb, ?_, hn, hm, by simp [putCells, hs], ?_⟩⟩, rfl, rfl, rfl, ?_, fun i hi hne => ?_⟩
  ·rw [blk g hl]
   show ((w.heap.modify g _)[g]?) = _
   rw [Array.getElem?_modify, if_pos rfl, hg]
   rfl
  ·apply List.ext_getElem?
   intro j
   by_cases hj : j < d.size * k
   ·rw [List.getElem?_take, if_pos hj, Array.getElem?_toList, flatK_at enc k hk h0 d' j (by rw [hd]; exact hj)]
    have hjc : j < cur.size := by rw [hs]; exact Nat.lt_of_lt_of_le hj (Nat.mul_le_mul_right _ hn)
    unfold putCells
    rw [Array.getElem?_mapIdx, Array.getElem?_eq_getElem hjc]
    simp only [Option.map_some, Nat.zero_le, true_and, Nat.zero_add, size_flatK, hd, hj, if_true, id, Nat.sub_zero]
   ·rw [List.getElem?_eq_none (by rw [List.length_take]; omega), List.getElem?_eq_none (by rw [flat_len enc k hk]; simp [hd]; omega)]
  ·unfold sortWorldK grow
   simp only [Array.size_append]
   rw [hsz]
   omega
  ·rw [blk i hi]
   show ((w.heap.modify g _)[i]?) = _
   rw [Array.getElem?_modify, if_neg (fun q => hne (congrArg some q.symm))]
end
def sortH_ren : Go.Shelf.Ren := ⟨fun | 6 => 75 | 15 => 99 | 14 => 98 | 28 => 124 | 29 => 125 | 20 => 116 | 21 => 117 | 22 => 118 | 23 => 119 | 24 => 120 | 25 => 121 | 26 => 122 | 27 => 123 | 46 => 145 | 47 => 146 | 48 => 147 | 49 => 148 | 50 => 149 | 57 => 161 | n => n, fun | 22 => 41 | 24 => 26 | 25 => 102 | 3 => 3 | 39 => 157 | 0 => 0 | 53 => 68 | 55 => 134 | 4 => 4 | 46 => 180 | 45 => 179 | 50 => 126 | 5 => 5 | 9 => 9 | 66 => 192 | 70 => 196 | 76 => 207 | 77 => 208 | n => n, fun n => n⟩
theorem sortH : SlLaysF0.n6 Tryz.prog sortH_ren := {
 mixed := by kernel_rfl,
 f6 := ⟨Tryz.f75.name, by decide, Tryz.func75.trans (congrArg some (by kernel_rfl))⟩,
 f14 := ⟨Tryz.f98.name, by decide, Tryz.func98.trans (congrArg some (by kernel_rfl))⟩,
 f15 := Tryz.func99.trans (congrArg some (by kernel_rfl)),
 f20 := ⟨Tryz.f116.name, by decide, Tryz.func116.trans (congrArg some (by kernel_rfl))⟩,
 f21 := ⟨Tryz.f117.name, by decide, Tryz.func117.trans (congrArg some (by kernel_rfl))⟩,
 f22 := ⟨Tryz.f118.name, by decide, Tryz.func118.trans (congrArg some (by kernel_rfl))⟩,
 f23 := ⟨Tryz.f119.name, by decide, Tryz.func119.trans (congrArg some (by kernel_rfl))⟩,
 f24 := ⟨Tryz.f120.name, by decide, Tryz.func120.trans (congrArg some (by kernel_rfl))⟩,
 f25 := ⟨Tryz.f121.name, by decide, Tryz.func121.trans (congrArg some (by kernel_rfl))⟩,
 f26 := ⟨Tryz.f122.name, by decide, Tryz.func122.trans (congrArg some (by kernel_rfl))⟩,
 f27 := ⟨Tryz.f123.name, by decide, Tryz.func123.trans (congrArg some (by kernel_rfl))⟩,
 f28 := Tryz.func124.trans (congrArg some (by kernel_rfl)),
 f29 := Tryz.func125.trans (congrArg some (by kernel_rfl)),
 f46 := ⟨Tryz.f145.name, by decide, Tryz.func145.trans (congrArg some (by kernel_rfl))⟩,
 f47 := Tryz.func146.trans (congrArg some (by kernel_rfl)),
 f48 := Tryz.func147.trans (congrArg some (by kernel_rfl)),
 f49 := ⟨Tryz.f148.name, by decide, Tryz.func148.trans (congrArg some (by kernel_rfl))⟩,
 f50 := ⟨Tryz.f149.name, by decide, Tryz.func149.trans (congrArg some (by kernel_rfl))⟩,
 f57 := ⟨Tryz.f161.name, by decide, Tryz.func161.trans (congrArg some (by kernel_rfl))⟩,
 t0 := Tryz.underlying0,
 a0 := Tryz.isAgg0,
 z0 := Tryz.sizeOf0,
 v0 := Tryz.zeroValue0,
 t3 := Tryz.underlying3,
 a3 := Tryz.isAgg3,
 z3 := Tryz.sizeOf3,
 v3 := Tryz.zeroValue3,
 t4 := Tryz.underlying4,
 a4 := Tryz.isAgg4,
 z4 := Tryz.sizeOf4,
 v4 := Tryz.zeroValue4,
 t5 := Tryz.underlying5,
 a5 := Tryz.isAgg5,
 z5 := Tryz.sizeOf5,
 v5 := Tryz.zeroValue5,
 t9 := Tryz.underlying9,
 a9 := Tryz.isAgg9,
 z9 := Tryz.sizeOf9,
 v9 := Tryz.zeroValue9,
 t22 := Tryz.underlying41,
 a22 := Tryz.isAgg41,
 z22 := Tryz.sizeOf41,
 v22 := Tryz.zeroValue41,
 t25 := Tryz.underlying102,
 a25 := Tryz.isAgg102,
 z25 := Tryz.sizeOf102,
 v25 := Tryz.zeroValue102,
 t39 := Tryz.underlying157,
 a39 := Tryz.isAgg157,
 z39 := Tryz.sizeOf157,
 v39 := Tryz.zeroValue157,
 t45 := Tryz.underlying179,
 a45 := Tryz.isAgg179,
 z45 := Tryz.sizeOf179,
 v45 := Tryz.zeroValue179,
 t46 := Tryz.underlying180,
 a46 := Tryz.isAgg180,
 z46 := Tryz.sizeOf180,
 v46 := Tryz.zeroValue180,
 t50 := Tryz.underlying126,
 a50 := Tryz.isAgg126,
 z50 := Tryz.sizeOf126,
 v50 := Tryz.zeroValue126,
 t53 := Tryz.underlying68,
 a53 := Tryz.isAgg68,
 z53 := Tryz.sizeOf68,
 v53 := Tryz.zeroValue68,
 t55 := Tryz.underlying134,
 a55 := Tryz.isAgg134,
 z55 := Tryz.sizeOf134,
 v55 := Tryz.zeroValue134,
 t66 := Tryz.underlying192,
 a66 := Tryz.isAgg192,
 z66 := Tryz.sizeOf192,
 v66 := Tryz.zeroValue192,
 t70 := Tryz.underlying196,
 a70 := Tryz.isAgg196,
 z70 := Tryz.sizeOf196,
 v70 := Tryz.zeroValue196,
 t76 := Tryz.underlying207,
 a76 := Tryz.isAgg207,
 z76 := Tryz.sizeOf207,
 v76 := Tryz.zeroValue207,
 t77 := Tryz.underlying208,
 a77 := Tryz.isAgg208,
 z77 := Tryz.sizeOf208,
 v77 := Tryz.zeroValue208 }
instance : Inhabited Hs := ⟨⟨List.replicate 32 0, List.length_replicate, fun x h => by rw [List.eq_of_mem_replicate h]; decide⟩⟩
def ch (x : Hs) : List Value := x.k.map hb
theorem ch_len (x : Hs) : (ch x).length = 32 := by unfold ch; rw [List.length_map, x.len]
def cfH (x y : Hs) : Int := Go.Sy.lx x.k y.k
theorem swoH : SWO (ltOf cfH) := by
 have e : ∀ x y : Hs, ltOf cfH x y = true ↔ Go.Sy.lx x.k y.k < 0 := fun x y => by unfold ltOf cfH; rw [decide_eq_true_eq]
 have f : ∀ x y : Hs, ltOf cfH x y = false ↔ ¬ Go.Sy.lx x.k y.k < 0 := fun x y => by rw [← e, Bool.not_eq_true]
 have tr : ∀ {A B C : List Nat}, Go.Sy.lx A B < 0 → Go.Sy.lx B C < 0 → Go.Sy.lx A C < 0 := fun {A B C} h k => by
  obtain ⟨a, b⟩ := Go.Sy.lx_trans (Int.le_of_lt h) (Int.le_of_lt k)
  rcases Int.lt_or_eq_of_le a with a | a
  ·exact a
  ·have := (b a).1; omega
 refine ⟨fun x => ?_, fun x y z => ?_, fun x y z => ?_⟩
 ·rw [f, Go.Sy.lx_zero.2 rfl]; decide
 ·rw [e, e, e]; exact tr
 ·rw [f, f, f]
  intro h1 h2 h3
  have h1' : Go.Sy.lx y.k x.k ≤ 0 := by rw [Go.Sy.lx_swap]; omega
  have h2' : Go.Sy.lx z.k y.k ≤ 0 := by rw [Go.Sy.lx_swap]; omega
  obtain ⟨a, _⟩ := Go.Sy.lx_trans h2' h1'
  have := Go.Sy.lx_swap x.k z.k
  omega
theorem sort_m (w : World) (B g cap : Nat) (Q : List Hs) (own : w.ownsRow B 26 32 (.slice (some ⟨g, 0, none⟩) Q.length cap) Q.length (Q.flatMap ch)) (hl : Q.length < 4611686018427387904) :
  Calls Tryz.prog 75 #[.slice (some ⟨g, 0, none⟩) Q.length cap, .func (.func 71) #[] #[]] w fun e w' => e = .returned (.tuple #[]) ∧
   ∃ Q' : List Hs, Q'.Perm Q ∧ Q'.Pairwise (fun x y => 0 ≤ Go.Sy.lx y.k x.k) ∧ w'.ownsRow B 26 32 (.slice (some ⟨g, 0, none⟩) Q'.length cap) Q'.length (Q'.flatMap ch) ∧ w.grownBy w' (some g) := by
 have own' : w.ownsRow B 26 32 (.slice (some ⟨g, 0, none⟩) Q.toArray.size cap) Q.toArray.size (Q.toArray.toList.flatMap ch) := own
 obtain ⟨hH, hg, hB⟩ := own_holds ch 32 ch_len (by decide) own'
 have eg : ∀ args w, (callFunc 71 args).run Tryz.prog w = .ok (.enter 71 args) w := enters_of Tryz.func71 (by kernel_rfl) rfl
 have lays : CmpLays Tryz.prog 71 #[] ch 32 cfH g 0 Q.toArray.size w := fun m os dk hs x y => compare_m _ x y
 have hcon := AnyQ.slices_SortFunc sortH 32 Tryz.isAgg26 Tryz.sizeOf26 ch ch_len (fun x v hv => by
   obtain ⟨n, _, rfl⟩ := List.mem_map.1 hv
   rfl) cfH swoH 71 #[] g 0 cap Q.toArray w eg lays hH hg hl
 change Calls Tryz.prog 75 _ _ _ at hcon
 refine hcon.mono ?_
 rintro e w' ⟨rfl, d', n, os, hp, hs, rfl⟩
 obtain ⟨o1, t1⟩ := own_sorted ch 32 ch_len (by decide) own' d' hp.1 n os
 have ex : ∀ d : Array Hs, d.size = Q.toArray.size → (d.extract 0 Q.toArray.size).toList = d.toList := fun d h => by rw [← h]; simp
 have hperm : d'.toList.Perm Q := by
  have := hp.2.2
  rw [ex d' hp.1, ex _ rfl] at this
  simpa using this
 have el : d'.toList.length = Q.toArray.size := by simp [hp.1]
 refine ⟨rfl, d'.toList, hperm, ?_, by rw [el]; exact o1, t1⟩
 rw [List.pairwise_iff_getElem]
 intro i j hi hj hij
 have h2 := hs i j (Nat.zero_le _) hij (by rw [← hp.1]; simpa using hj)
 have hi' : i < d'.size := by simpa using hi
 have hj' : j < d'.size := by simpa using hj
 rw [getElem!_pos d' i hi', getElem!_pos d' j hj'] at h2
 unfold ltOf cfH at h2
 rw [decide_eq_false_iff_not] at h2
 have h3 : ¬ Go.Sy.lx (d'[j]).k (d'[i]).k < 0 := h2
 simp only [Array.getElem_toList]
 omega
open Go Go.RowKit Go.Maps Go.Sort Go.Shelf Go.Lib
set_option maxRecDepth 100000
theorem hcs_ch (ss : List Hs) : hcs ss = ss.flatMap ch := by unfold hcs ch; rw [List.flatMap_def]
set_option maxHeartbeats 1600000 in
theorem sorted_m {H : Type} (Bm o b nn : Nat) (D0 : DataW H) (w : World) (hBm : Bm < w.heap.size) (hm : w.cell? ⟨Bm, o, none⟩ = some (.map (some b)))
  (hown : w.ownsMap Tryz.prog 26 (fun _ => some ((.nil : DataW H), ([] : List MemPlace))) b nn D0) (hN : Maps.size D0 ≤ 4398046511104) :
  Calls Tryz.prog 44 #[.func (.func 95) #[] #[.pointer (some ⟨Bm, o, none⟩)], .func (.func 71) #[] #[]] w fun e w' =>
   ∃ v, e = .returned v ∧ ∃ ss : List Hs, (ss.map hkb).Perm (strKeys D0) ∧ ss.Pairwise (fun x y => 0 ≤ Go.Sy.lx y.k x.k) ∧ w'.ownsRow w.heap.size 26 32 v ss.length (hcs ss) ∧ (v = .slice none 0 0 ↔ ss = []) ∧ Below w.heap.size w w' := by
 have hseq := keys_gives Fence.wide 3 trivial rfl (by decide) Bm o b nn D0 w hBm hm hown
 have eg : ∀ args w, (callFunc 95 args).run Tryz.prog w = .ok (.enter 95 args) w := enters_of Tryz.func95 (by kernel_rfl) rfl
 have cC := callsIn_wide.1 (collect_in Fence.wide 5 trivial trivial rfl (by decide) 95 #[.pointer (some ⟨Bm, o, none⟩)] trivial eg _ (Maps.size D0) (Nat.le_trans hN (by decide)) (by omega) w hseq)
 go_enter Tryz.func44, Tryz.ntmps44
 go_wp2_with (go_at_call 74; refine cC.mono ?_; rintro e W ⟨v, ss, rfl, hS, hrow, hnil, hb⟩)
 have hlen : ss.length ≤ 4398046511104 := by
  have h1 := hS.length_eq
  rw [List.length_map] at h1
  rw [h1]
  refine Nat.le_trans ?_ hN
  cases D0 <;> first | exact Nat.zero_le _ | (show (List.map _ _).length ≤ List.length _; rw [List.length_map]; exact Nat.le_refl _)
 rcases hrow.2 with ⟨rfl, hz⟩ | ⟨gb, cap, cur, rfl, hbase, hgb, r1, r2, r3, r4⟩
 ·have hss : ss = [] := List.eq_nil_of_length_eq_zero hz
  subst hss
  have cN := AnyF.slices_SortFunc_none (P := Tryz.prog) (ρ := sortH_ren) { sortH with } none 0 (.func (.func 71) #[] #[]) W
  go_wp2_with (go_at_call 75; refine cN.mono ?_; rintro e w' ⟨rfl, hw⟩; have hw' := hw.symm; subst hw')
  go_ret
  exact ⟨.slice none 0 0, rfl, [], hS, .nil, hrow, by simp, hb⟩
 ·rw [hcs_ch] at hrow
  have cS := sort_m W w.heap.size gb cap ss hrow (by omega)
  go_wp2_with (go_at_call 75; refine cS.mono ?_; rintro e w' ⟨rfl, Q, h1, h2, h3, h4⟩)
  go_ret
  have hl := h1.length_eq
  rw [hl] at h3
  refine ⟨_, rfl, Q, (h1.map hkb).trans hS, h2, by rw [hcs_ch, hl]; exact h3, ?_, hb.grown h4 hb.size (fun k hk => by cases hk; exact hbase)⟩
  refine ⟨fun e => (by cases e), fun e => ?_⟩
  subst e
  have : ss = [] := List.eq_nil_of_length_eq_zero hl.symm
  exact absurd (hnil.2 this) (by intro e; cases e)
end Go.Proofs.YtnbdpcpgckfeeaaGreatDoor
