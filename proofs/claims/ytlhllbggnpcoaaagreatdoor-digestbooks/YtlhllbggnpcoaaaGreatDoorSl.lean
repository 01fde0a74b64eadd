import Derived.Test.YtlhllbggnpcoaaaGreatDoorOpB
import Derived.Shelf.SlSortCmp.WholeK
import Derived.Test.YtlhllbggnpcoaaaGreatDoorLay
import Derived.Test.YtlhllbggnpcoaaaGreatDoorNts
import Derived.Test.YtlhllbggnpcoaaaGreatDoorLex
import Derived.Test.YtlhllbggnpcoaaaGreatDoorSm
import Derived.Deep.RegionHeld3
import Derived.Deep.MidRow
/-
  A row of structs that the call owns, sorted.
-/
namespace Go.Proofs.YtlhllbggnpcoaaaGreatDoor
open Go.RowKit Go.Sort Go.Shelf Go.Lib

section
variable {α : Type} [Inhabited α] (enc : α → List Value) (k : Nat) (hk : ∀ x, (enc x).length = k) (h0 : 0 < k)
include hk h0
theorem flat_get : ∀ (l : List α) (j : Nat), j < l.length * k → (l.flatMap enc)[j]? = some ((enc l[j / k]!)[j % k]!)
  | [], j, h => by simp at h
  | x :: l, j, h => by
    rw [List.flatMap_cons]
    by_cases hj : j < k
    · rw [List.getElem?_append_left (by rw [hk]; exact hj), Nat.div_eq_of_lt hj, Nat.mod_eq_of_lt hj]
      have : j < (enc x).length := by rw [hk]; exact hj
      show (enc x)[j]? = some ((enc x)[j]!)
      rw [List.getElem?_eq_getElem this, getElem!_pos (enc x) j this]
    · rw [List.getElem?_append_right (by rw [hk]; omega), hk, flat_get l (j - k) (by simp only [List.length_cons, Nat.succ_mul] at h; omega)]
      have e : j = (j - k) + k := by omega
      have e1 : j / k = (j - k) / k + 1 := by rw [e, Nat.add_div_right _ h0, Nat.add_sub_cancel]
      have e2 : j % k = (j - k) % k := by rw [e, Nat.add_mod_right, Nat.add_sub_cancel]
      rw [e1, e2]
      rfl
omit [Inhabited α] h0 in
theorem flat_len (l : List α) : (l.flatMap enc).length = l.length * k := by
  induction l with
  | nil => simp
  | cons x l ih => rw [List.flatMap_cons, List.length_append, ih, hk, List.length_cons, Nat.succ_mul, Nat.add_comm]
theorem flatK_at (d : Array α) (j : Nat) (h : j < d.size * k) : (d.toList.flatMap enc)[j]? = some ((flatK enc k d)[j]!) := by
  rw [flat_get enc k hk h0 d.toList j (by simpa using h), get_flatK enc k d j h]
  have : d.toList[j / k]! = d[j / k]! := by
    rw [List.getElem!_eq_getElem?_getD, getElem!_def]
    simp only [Array.getElem?_toList]
    cases d[j / k]? <;> rfl
  rw [this]

variable {w : World} {B e g cap : Nat} {d : Array α}
theorem own_holds (h : w.ownsRow B e k (.slice (some ⟨g, 0, none⟩) d.size cap) d.size (d.toList.flatMap enc)) : HoldsK enc k w g 0 d ∧ g < w.heap.size ∧ B ≤ g := by
  rcases h.2 with ⟨h1, _⟩ | ⟨g', cap', cur, h1, hb, hg, hn, hm, hs, ht⟩
  · simp at h1
  · simp only [Value.slice.injEq, Option.some.injEq, Addr.mk.injEq, and_true, true_and] at h1
    obtain ⟨rfl, rfl⟩ := h1
    refine ⟨fun j hj => ?_, (Array.getElem?_eq_some_iff.1 hg).1, hb⟩
    rw [size_flatK] at hj
    have hc := flatK_at enc k hk h0 d j hj
    rw [← ht, List.getElem?_take, if_pos hj, Array.getElem?_toList] at hc
    refine ⟨?_, ?_⟩
    · rw [Nat.zero_add, cell_of_row w g j cur e (0, 0) hg]
      exact hc
    · rw [World.frozen?, hg]
      simp
theorem own_sorted (h : w.ownsRow B e k (.slice (some ⟨g, 0, none⟩) d.size cap) d.size (d.toList.flatMap enc)) (d' : Array α) (hd : d'.size = d.size) (m : Nat) (os : Array Obj) :
    (sortWorldK enc k w g 0 m d' os).ownsRow B e k (.slice (some ⟨g, 0, none⟩) d.size cap) d.size (d'.toList.flatMap enc) ∧ Turn (fun i => i = g) w (sortWorldK enc k w g 0 m d' os) := by
  rcases h.2 with ⟨h1, _⟩ | ⟨g', cap', cur, h1, hb, hg, hn, hm, hs, ht⟩
  · simp at h1
  · simp only [Value.slice.injEq, Option.some.injEq, Addr.mk.injEq, and_true, true_and] at h1
    obtain ⟨rfl, rfl⟩ := h1
    have hl : g < w.heap.size := (Array.getElem?_eq_some_iff.1 hg).1
    have hsz : (putRowK enc k (Sort.ahead w m) g 0 d').heap.size = w.heap.size := by unfold putRowK; rw [size_putRow]; rfl
    have blk : ∀ i, i < w.heap.size → (sortWorldK enc k w g 0 m d' os).heap[i]? = (putRowK enc k (Sort.ahead w m) g 0 d').heap[i]? := fun i hi => by
      unfold sortWorldK grow
      exact Array.getElem?_append_left (by rw [hsz]; exact hi)
    refine ⟨⟨by rw [flat_len enc k hk]; simp [hd], .inr ⟨g, cap, putCells id 0 (flatK enc k d') cur, rfl, hb, ?_, hn, hm, by simp [putCells, hs], ?_⟩⟩, rfl, rfl, rfl, ?_, fun i hi hne => ?_⟩
    · rw [blk g hl]
      show ((w.heap.modify g _)[g]?) = _
      rw [Array.getElem?_modify, if_pos rfl, hg]
      rfl
    · apply List.ext_getElem?
      intro j
      by_cases hj : j < d.size * k
      · rw [List.getElem?_take, if_pos hj, Array.getElem?_toList, flatK_at enc k hk h0 d' j (by rw [hd]; exact hj)]
        have hjc : j < cur.size := by rw [hs]; exact Nat.lt_of_lt_of_le hj (Nat.mul_le_mul_right _ hn)
        unfold putCells
        rw [Array.getElem?_mapIdx, Array.getElem?_eq_getElem hjc]
        simp only [Option.map_some, Nat.zero_le, true_and, Nat.zero_add, size_flatK, hd, hj, if_true, id, Nat.sub_zero]
      · rw [List.getElem?_eq_none (by rw [List.length_take]; omega), List.getElem?_eq_none (by rw [flat_len enc k hk]; simp [hd]; omega)]
    · unfold sortWorldK grow
      simp only [Array.size_append]
      rw [hsz]
      omega
    · rw [blk i hi]
      show ((w.heap.modify g _)[i]?) = _
      rw [Array.getElem?_modify, if_neg (fun q => hne q.symm)]
end
end Go.Proofs.YtlhllbggnpcoaaaGreatDoor

/-
  Pairs in memory, and slices.SortFunc of them.
-/
namespace Go.Proofs.YtlhllbggnpcoaaaGreatDoor
open Go.RowKit Go.Sort Go.Maps

/-- a pair: its two slices, and what they hold -/
structure PR where
  ua : Value
  a : List Nat
  ub : Value
  b : List Nat
def PR.enc (q : PR) : List Value := [q.ua, q.ub]
def PR.ab (q : PR) : List Nat × List Nat := (q.a, q.b)
structure POk (w : World) (B : Nat) (q : PR) : Prop where
  sa : Str w (fun i => B ≤ i) q.ua q.a
  sb : Str w (fun i => B ≤ i) q.ub q.b
def cfP (p q : List Nat × List Nat) : Int := if cmpL p.1 q.1 ≠ 0 then cmpL p.1 q.1 else cmpL p.2 q.2

theorem POk.turn {G : Nat → Prop} {w w' : World} {B : Nat} {q : PR} (h : POk w B q) (t : Turn G w w') (hG : ∀ i, G i → i < w.heap.size → ∃ o, w.heap[i]? = some o ∧ ∀ cs fz, o ≠ .cells cs 5 fz) : POk w' B q := by
  have hn : ∀ {u : Value} {s : List Nat}, Str w (fun i => B ≤ i) u s → Str w' (fun i => B ≤ i) u s := fun hs => ⟨own_turn hs.own t (fun g hg hGg => by
    obtain ⟨o, ho, hne⟩ := hG g hGg (hs.own.lt g hg).2
    obtain ⟨cur, hc⟩ := own_block hs.own hg
    rw [hc] at ho
    exact hne _ _ (Option.some.inj ho).symm), hs.foot, hs.ok⟩
  exact ⟨hn h.sa, hn h.sb⟩

set_option maxRecDepth 100000 in
set_option maxHeartbeats 1600000 in
theorem comparePairs_any (W : World) (B : Nat) (x y : PR) (hx : POk W B x) (hy : POk W B y) :
    Calls Tryz.prog 59 #[.agg #[x.ua, x.ub], .agg #[y.ua, y.ub]] W fun e w' => e = .returned (.int .i64 (cfP x.ab y.ab)) ∧ ∃ q os', w' = grow (W.drewN q) os' := by
  obtain ⟨ua, a, ub, b⟩ := x
  obtain ⟨va, c, vb, d⟩ := y
  have xa : Str W (fun i => B ≤ i) ua a := hx.sa
  have xb : Str W (fun i => B ≤ i) ub b := hx.sb
  have ya : Str W (fun i => B ≤ i) va c := hy.sa
  have yb : Str W (fun i => B ≤ i) vb d := hy.sb
  clear hx hy
  obtain ⟨pa, ga, ca, rfl, _, wa, _⟩ := xa.view
  obtain ⟨pb, gb, cb, rfl, _, wb, _⟩ := xb.view
  obtain ⟨pc, gc, cc, rfl, _, wc, _⟩ := ya.view
  obtain ⟨pd, gd, cd, rfl, _, wd, _⟩ := yb.view
  have hb : Below W.heap.size W ((W.alloc (.cells #[.slice pa a.length ca, .slice pb b.length cb] 94)).alloc (.cells #[.slice pc c.length cc, .slice pd d.length cd] 94)) := ((Below.refl _ _).alloc (Nat.le_refl _) _).alloc (by simp) _
  have c1 := compare_any _ pa pc ga 0 ca gc 0 cc a c (wa.below hb) (wc.below hb)
  have c2 := compare_any _ pb pd gb 0 cb gd 0 cd b d (wb.below hb) (wd.below hb)
  have HE : Hid (∃ q os', ((W.alloc (.cells #[.slice pa a.length ca, .slice pb b.length cb] 94)).alloc (.cells #[.slice pc c.length cc, .slice pd d.length cd] 94)) = grow (W.drewN q) os') := ⟨0, _, by rw [alloc_eq_grow, alloc_eq_grow, grow_grow]; rfl⟩
  clear xa xb ya yb wa wb wc wd hb
  show Calls Tryz.prog 59 #[.agg #[.slice pa a.length ca, .slice pb b.length cb], .agg #[.slice pc c.length cc, .slice pd d.length cd]] W _
  have e0 : cfP (PR.ab ⟨.slice pa a.length ca, a, .slice pb b.length cb, b⟩) (PR.ab ⟨.slice pc c.length cc, c, .slice pd d.length cd, d⟩) = if cmpL a c ≠ 0 then cmpL a c else cmpL b d := rfl
  rw [e0]
  clear e0
  generalize cmpL a c = r1 at c1 ⊢
  generalize cmpL b d = r2 at c2 ⊢
  generalize a.length = n1 at c1 c2 HE ⊢
  generalize b.length = n2 at c1 c2 HE ⊢
  generalize c.length = n3 at c1 c2 HE ⊢
  generalize d.length = n4 at c1 c2 HE ⊢
  by_cases h1 : r1 = 0
  · subst h1
    go_enter Tryz.func59, Tryz.ntmps59
    go_wp2_with (first
      | (refine c1.mono ?_; rintro _ w' ⟨rfl, hw'⟩; have hw'' := hw'.symm; subst hw'')
      | (refine c2.mono ?_; rintro _ w' ⟨rfl, hw'⟩; have hw'' := hw'.symm; subst hw''))
    go_ret
    exact ⟨rfl, HE.out⟩
  · go_enter Tryz.func59, Tryz.ntmps59
    go_wp2_with (first
      | (refine c1.mono ?_; rintro _ w' ⟨rfl, hw'⟩; have hw'' := hw'.symm; subst hw'')
      | (refine c2.mono ?_; rintro _ w' ⟨rfl, hw'⟩; have hw'' := hw'.symm; subst hw''))
    go_ret
    exact ⟨rfl, HE.out⟩

/-- the pairs that are good in a world -/
abbrev OkP (w : World) (B : Nat) : Type := { q : PR // POk w B q }
theorem nil_str (w : World) (F : Nat → Prop) : Str w F nilS [] := ⟨World.ownsRow_nil _ _ _ _, fun g hg => by simp [nilS, Value.ownBlock] at hg, by decide, by simp⟩
instance (w : World) (B : Nat) : Inhabited (OkP w B) := ⟨⟨⟨nilS, [], nilS, []⟩, nil_str _ _, nil_str _ _⟩⟩
def encP {w : World} {B : Nat} (x : OkP w B) : List Value := x.1.enc
def cfPP {w : World} {B : Nat} (x y : OkP w B) : Int := cfP x.1.ab y.1.ab
theorem cfP_lt (p q : List Nat × List Nat) : cfP p q < 0 ↔ ltP p q := by
  unfold cfP ltP
  by_cases h : cmpL p.1 q.1 = 0
  · rw [if_neg (fun k => k h)]
    have e := cmpL_zero.1 h
    rw [e]
    exact ⟨fun k => Or.inr ⟨rfl, k⟩, fun k => k.elim (fun z => absurd z (lt_irrefl _)) (fun z => z.2)⟩
  · rw [if_pos h]
    refine ⟨fun k => Or.inl k, fun k => k.elim id (fun z => absurd (cmpL_zero.2 z.1) h)⟩
theorem swoP {w : World} {B : Nat} : SWO (ltOf (cfPP (w := w) (B := B))) := by
  have e : ∀ x y : OkP w B, ltOf cfPP x y = true ↔ ltP x.1.ab y.1.ab := fun x y => by
    unfold ltOf cfPP
    rw [decide_eq_true_eq]
    exact cfP_lt _ _
  have f : ∀ x y : OkP w B, ltOf cfPP x y = false ↔ ¬ ltP x.1.ab y.1.ab := fun x y => by rw [← e, Bool.not_eq_true]
  refine ⟨fun x => ?_, fun x y z => ?_, fun x y z => ?_⟩
  · rw [f]; exact ltP_irrefl _
  · rw [e, e, e]; exact ltP_trans _ _ _
  · rw [f, f, f]
    intro h1 h2 h3
    rcases ltP_tri x.1.ab y.1.ab with q | q | q
    · exact h1 q
    · rw [q] at h3; exact h2 h3
    · exact h2 (ltP_trans _ _ _ q h3)

theorem infoP : (Tryz.prog.info? 94).map (fun i => (i.zero, i.size, i.bytes)) = some (some (.agg #[nilS, nilS]), 2, 48) := by kernel_rfl

/-- PAIRS THAT THE CALL OWNS, SORTED. -/
theorem sortPairs (w : World) (B g cap : Nat) (Q : List PR) (own : w.ownsRow B 94 2 (.slice (some ⟨g, 0, none⟩) Q.length cap) Q.length (Q.flatMap PR.enc)) (ok : ∀ q ∈ Q, POk w B q) (hl : Q.length < 4611686018427387904) :
    Calls Tryz.prog 58 #[.slice (some ⟨g, 0, none⟩) Q.length cap, .func (.func 59) #[] #[]] w fun e w' => e = .returned (.tuple #[]) ∧
      ∃ Q' : List PR, Q'.Perm Q ∧ Q'.Pairwise (fun x y => ¬ ltP y.ab x.ab) ∧ w'.ownsRow B 94 2 (.slice (some ⟨g, 0, none⟩) Q'.length cap) Q'.length (Q'.flatMap PR.enc) ∧ (∀ q ∈ Q', POk w' B q) ∧ Turn (fun i => i = g) w w' := by
  have hk : ∀ x : OkP w B, (encP x).length = 2 := fun _ => rfl
  have fm : ∀ l : List (OkP w B), l.flatMap encP = (l.map (·.1)).flatMap PR.enc := fun l => by rw [List.flatMap_map]; rfl
  obtain ⟨l, rfl⟩ : ∃ l : List (OkP w B), Q = l.map (·.1) := ⟨Q.attach.map (fun q => ⟨q.1, ok q.1 q.2⟩), by simp⟩
  have el : (l.map (·.1)).length = l.toArray.size := by simp
  have own' : w.ownsRow B 94 2 (.slice (some ⟨g, 0, none⟩) l.toArray.size cap) l.toArray.size (l.toArray.toList.flatMap encP) := by rw [fm]; rw [el] at own; exact own
  obtain ⟨hH, hg, hB⟩ := own_holds encP 2 hk (by decide) own'
  have rowT : ∀ i, i = g → i < w.heap.size → ∃ o, w.heap[i]? = some o ∧ ∀ cs fz, o ≠ .cells cs 5 fz := fun i hi _ => by
    subst hi
    obtain ⟨cur, hc⟩ := own_block own' (g := i) rfl
    exact ⟨_, hc, fun cs fz z => by injection z with _ z; exact absurd z (by decide)⟩
  have eg : ∀ args w, (callFunc 59 args).run Tryz.prog w = .ok (.enter 59 args) w := enters_of Tryz.func59 (by kernel_rfl) rfl
  have lays : CmpLays Tryz.prog 59 #[] (encP (w := w) (B := B)) 2 cfPP g 0 l.toArray.size w := fun m os dk hs x y => by
    have tn := (own_sorted encP 2 hk (by decide) own' dk hs m os).2
    exact comparePairs_any _ B x.1 y.1 (x.2.turn tn rowT) (y.2.turn tn rowT)
  have hcon := AnyQ.slices_SortFunc sortP 2 Tryz.isAgg94 Tryz.sizeOf94 (encP (w := w) (B := B)) hk (fun x v hv => by
      simp only [encP, PR.enc, List.mem_cons, List.not_mem_nil, or_false] at hv
      rcases hv with rfl | rfl
      · exact x.2.sa.one
      · exact x.2.sb.one) cfPP swoP 59 #[] g 0 cap l.toArray w eg lays hH hg (by rw [← el]; exact hl)
  change Calls Tryz.prog 58 _ _ _ at hcon
  rw [el]
  refine hcon.mono ?_
  rintro e w' ⟨rfl, d', n, os, hp, hs, rfl⟩
  obtain ⟨o1, t1⟩ := own_sorted encP 2 hk (by decide) own' d' hp.1 n os
  have ex : ∀ d : Array (OkP w B), d.size = l.toArray.size → (d.extract 0 l.toArray.size).toList = d.toList := fun d h => by rw [← h]; simp
  have hperm : d'.toList.Perm l := by
    have := hp.2.2
    rw [ex d' hp.1, ex _ rfl] at this
    simpa using this
  have el' : (d'.toList.map (·.1)).length = l.toArray.size := by simp [hp.1]
  refine ⟨rfl, d'.toList.map (·.1), hperm.map _, ?_, ?_, fun q hq => ?_, t1⟩
  · rw [List.pairwise_map, List.pairwise_iff_getElem]
    intro i j hi hj hij
    have h2 := hs i j (Nat.zero_le _) hij (by rw [← hp.1]; simpa using hj)
    have hi' : i < d'.size := by simpa using hi
    have hj' : j < d'.size := by simpa using hj
    rw [getElem!_pos d' i hi', getElem!_pos d' j hj'] at h2
    unfold ltOf cfPP at h2
    rw [decide_eq_false_iff_not, cfP_lt] at h2
    simpa using h2
  · rw [el', ← fm]
    exact o1
  · obtain ⟨x, hx, rfl⟩ := List.mem_map.1 hq
    exact x.2.turn t1 rowT
end Go.Proofs.YtlhllbggnpcoaaaGreatDoor

/-
  The law's rest, and rows that are made.
-/
namespace Go.Proofs.YtlhllbggnpcoaaaGreatDoor
open Go.RowKit

theorem rest_eq (n m : Int) (hm : 0 < m) : (n.tmod m + m).tmod m = n % m := by
  have h1 := Int.tmod_add_mul_tdiv n m
  have h2 : -m < n.tmod m := by
    have := Int.lt_tmod_of_pos n hm
    exact this
  have h3 : n.tmod m < m := Int.tmod_lt_of_pos n hm
  rw [Int.tmod_eq_emod_of_nonneg (by omega), Int.add_emod_right]
  have e : n = n.tmod m + m * n.tdiv m := by omega
  conv => rhs; rw [e]
  rw [Int.add_mul_emod_self_left]

/-- a row of bytes that the law has made -/
structure Mk (w wr : World) (g n : Nat) (f : Nat → Nat) : Prop where
  below : Below w.heap.size w wr
  lo : w.heap.size ≤ g
  row : wr.rowIs g 5 n (fun i => .int .u8 (f i))
theorem Mk.set {w wr : World} {g n : Nat} {f : Nat → Nat} (h : Mk w wr g n f) (i v : Nat) : Mk w (wr.setCell ⟨g, i, none⟩ (.int .u8 v)) g n (fun j => if j = i then v else f j) :=
  ⟨h.below.setCell h.lo _, h.lo, (h.row.set i _).congr (fun j _ => by split <;> rfl)⟩
theorem Mk.congr {w wr : World} {g n : Nat} {f f' : Nat → Nat} (h : Mk w wr g n f) (e : ∀ i, i < n → f i = f' i) : Mk w wr g n f' :=
  ⟨h.below, h.lo, h.row.congr (fun i hi => by rw [e i hi])⟩
theorem Mk.step {w wr w' : World} {g n : Nat} {f : Nat → Nat} (h : Mk w wr g n f) (hb : Below wr.heap.size wr w') : Mk w w' g n f :=
  ⟨h.below.trans (hb.mono h.below.size), h.lo, h.row.of_block (hb.block _ h.row.lt)⟩
theorem Mk.save {w wr w' : World} {g n p : Nat} {f : Nat → Nat} (h : Mk w wr g n f) (hs : Save p wr w') (hp : w.heap.size ≤ p) (hgp : g ≠ p) : Mk w w' g n f :=
  ⟨h.below.trans (hs.below hp h.below.size), h.lo, hs.row h.row hgp⟩
theorem mk_made {w w1 : World} (hb : Below w.heap.size w w1) (n : Nat) : Mk w (w1.alloc (.cells (madeCells #[.int .u8 0] n) 5)) w1.heap.size n (fun _ => 0) :=
  ⟨hb.alloc hb.size _, hb.size, World.rowIs_made w1 _ n 5⟩
theorem Mk.view {w wr : World} {g n : Nat} {f : Nat → Nat} (h : Mk w wr g n f) (hf : ∀ i, f i < 256) (i k : Nat) (hik : i + k ≤ n) (hn : n ≤ 281474976710656) : View wr (some ⟨g, i, none⟩) g i k (fun j => (f (i + j) : Int)) :=
  ⟨fun _ => rfl, fun j hj => h.row.cell (by omega), fun j hj => by have := hf (i + j); omega, by omega⟩
def hashL (s : W8) : List Value := (List.range 32).map (fun i => Value.int .u8 (hb s i))
theorem hashL_len (s : W8) : (Tryz.prog.info? 31).map (·.size) = some (hashL s).length := by
  unfold hashL
  simp only [List.length_map, List.length_range]
  exact info26
theorem HashAt.range {w : World} {g : Nat} {s : W8} (h : HashAt w g s) : w.rangeAt g 0 (hashL s) := by
  intro j v hj
  have hl : j < 32 := by
    have := (List.getElem?_eq_some_iff.1 hj).1
    simpa [hashL] using this
  rw [Nat.zero_add, h.cells j (by rw [hashA_size]; exact hl), hashA_cell s j hl]
  unfold hashL at hj
  rw [List.getElem?_map, List.getElem?_range hl] at hj
  exact hj
theorem eq_hashL (w : World) (s : W8) : (Op.equalIn 10000 31 (.agg (hashL s).toArray) (.agg (hashA s))).run Tryz.prog w = .ok true w := eq_hashA w s
end Go.Proofs.YtlhllbggnpcoaaaGreatDoor

/-
  Lists cut, and bytes appended in a region that draws its order.
-/
namespace Go.Proofs.YtlhllbggnpcoaaaGreatDoor
open Go.RowKit

theorem elem24 : Tryz.prog.elem 26 = 5 := by kernel_rfl
theorem size5 (w : World) : (sizeOf 5).run Tryz.prog w = .ok 1 w := by
  have := info5size
  cases hq : Tryz.prog.info? 5 with
  | none => simp [hq] at this
  | some i => simp [hq] at this; simp [sizeOf, typeInfo, hq, this]
theorem slice_upto (a : Option Addr) (n c K : Nat) (h : K ≤ c) (w : World) : (Instr.slice 26 (.slice a n c) none (some (.int .i64 K)) none).run Tryz.prog w = .ok (.slice a K c) w := by
  rw [run_slice_h w 26 a n c (by rw [elem24]; exact Tryz.underlying26) .i64 K (by omega) (by omega), elem24, size5]
  simp only [Result.andThen, sliced]
  congr 1
  cases a <;> simp [Addr.add]
theorem sliceAt_upto (a : Option Addr) (n c K : Nat) (h : K ≤ c) (w : World) : (Instr.sliceAt 26 (.slice a n c) none (some (.int .i64 K)) none).run Tryz.prog w = .ok (.slice a K c) w := by
  rw [run_sliceAt_slice w 26 _ _ _ _ (by rw [elem24]; exact Tryz.underlying26), slice_upto a n c K h w]
/-- where a list begins behind its first K -/
def behind (a : Option Addr) (c K : Nat) : Option Addr := if c = K then a else a.map (·.add K)
theorem slice_from (a : Option Addr) (n c K : Nat) (h : K ≤ n) (w : World) : (Instr.slice 26 (.slice a n c) (some (.int .i64 K)) none none).run Tryz.prog w = .ok (.slice (behind a c K) (n - K) (c - K)) w := by
  rw [run_slice_l w 26 a n c (by rw [elem24]; exact Tryz.underlying26) .i64 K (by omega) (by omega), elem24, size5]
  simp only [Result.andThen, sliced, behind]
  simp
theorem sliceAt_from (a : Option Addr) (n c K : Nat) (h : K ≤ n) (w : World) : (Instr.sliceAt 26 (.slice a n c) (some (.int .i64 K)) none none).run Tryz.prog w = .ok (.slice (behind a c K) (n - K) (c - K)) w := by
  rw [run_sliceAt_slice w 26 _ _ _ _ (by rw [elem24]; exact Tryz.underlying26), slice_from a n c K h w]

/-- what is left of the bytes behind t of them -/
structure Left (w : World) (a : Option Addr) (b o N t c : Nat) (X : Nat → Nat) : Prop where
  view : View w a b (o + t) (N - t) (fun i => (X (t + i) : Int))
  cap : N - t ≤ c
  nil : a = none → c = 0
theorem Left.behind {w : World} {a : Option Addr} {b o N t c : Nat} {X : Nat → Nat} (h : Left w a b o N t c X) (n : Nat) (hn : n ≤ N - t) : Left w (behind a c n) b o N (t + n) (c - n) X := by
  have l := h.view.len
  have cp := h.cap
  refine ⟨⟨fun h0 => ?_, fun i hi => ?_, fun i hi => ?_, by omega⟩, by omega, fun e => ?_⟩
  · have ha := h.view.at_ (by omega)
    unfold Go.Proofs.YtlhllbggnpcoaaaGreatDoor.behind
    rw [if_neg (by omega), ha]
    simp only [Option.map_some, Option.some.injEq]
    rw [Go.WideShapes.add_plain]
    congr 1
    omega
  · have c1 := h.view.cell (n + i) (by omega)
    rw [show o + t + (n + i) = o + (t + n) + i by omega, show t + (n + i) = t + n + i by omega] at c1
    exact c1
  · have c1 := h.view.bd (n + i) (by omega)
    rw [show t + (n + i) = t + n + i by omega] at c1
    exact c1
  · unfold Go.Proofs.YtlhllbggnpcoaaaGreatDoor.behind at e
    split at e
    · have := h.nil e; omega
    · have : a = none := by cases a with | none => rfl | some x => cases e
      have := h.nil this
      omega
theorem Left.below {w w' : World} {a : Option Addr} {b o N t c : Nat} {X : Nat → Nat} (h : Left w a b o N t c X) (hb : Below w.heap.size w w') : Left w' a b o N t c X := ⟨h.view.below hb, h.cap, h.nil⟩

theorem jn_cut (mf : Nat → Nat) (X : Nat → Nat) : ∀ k i, i < tot mf k → jn mf (fun i j => X (tot mf i + j)) k i = X i
  | 0, i, h => by simp [tot] at h
  | k + 1, i, h => by
    simp only [jn]
    unfold cat
    by_cases hi : i < tot mf k
    · rw [if_pos hi, jn_cut mf X k i hi]
    · rw [if_neg hi]
      show X (tot mf k + (i - tot mf k)) = X i
      rw [show tot mf k + (i - tot mf k) = i by omega]
theorem own_some {w : World} {B n : Nat} {v : Value} {xs : List Value} (h : w.ownsRow B 5 1 v n xs) (hn : v ≠ .slice none 0 0) : ∃ g cap, v = .slice (some ⟨g, 0, none⟩) n cap ∧ n ≤ cap ∧ B ≤ g ∧ g < w.heap.size := by
  rcases h.2 with ⟨h0, _⟩ | ⟨g, cap, cur, hv, hB, hg, hc, _⟩
  · exact absurd h0 hn
  · have := h.lt g (by rw [hv]; rfl)
    exact ⟨g, cap, hv, hc, hB, this.2⟩

/-- bytes appended, as one step of a region that draws its order -/
theorem step_append_bytes {w : World} {ops : Array Oper} {o : Oper} {a : Act} {K : Act → World → Prop} {Q : Exit → Act → World → Prop} {E : Prop} (hgd : o.guard = none) (s x : Operand)
    (ho : o.op = .call { callee := .builtin .append, args := #[s, x], argTypes := #[26, 26] }) (base : Nat) (v : Value) (k : Nat) (xs : List Value) (hs : a.eval s = v) (hown : w.ownsRow base 5 1 v k xs)
    (sa : Option Addr) (b off n c : Nat) (Y : Nat → Int) (hx : a.eval x = .slice sa n c) (hv : View w sa b off n Y) (hnil : sa = none → c = 0) (hk : k + n ≤ 140737488355328) (hbase : base ≤ w.heap.size)
    (h : ∀ v' w', w'.ownsRow base 5 1 v' (k + n) (xs ++ vals Y n) → w.grownBy w' v.ownBlock → (v' = .slice none 0 0 → v = .slice none 0 0) → K (a.put o.dst v') w') : if Region.wanted o (yielded ops a.tmps) = true then Oper.wp Tryz.prog o a w K Q else E := by
  have hw : Region.wanted o (yielded ops a.tmps) = true := by simp [Region.wanted, hgd]
  rw [if_pos hw]
  obtain ⟨i0, hi0, hz0, hz1, hz2⟩ := info_parts Tryz.info5
  cases sa with
  | none =>
    have hn : n = 0 := by
      rcases Nat.eq_zero_or_pos n with e | e
      · exact e
      · cases hv.at_ e
    subst hn
    obtain rfl := hnil rfl
    have hrun := run_append_owned_none (P := Tryz.prog) (w := w) base 26 o.type 5 i0 1 Tryz.underlying26 hi0 v k xs hown
    unfold Oper.wp
    simp [execOp, ho, resolve, invoke, builtin, hs, hx, hrun, Result.andThen]
    refine h v w ?_ ⟨rfl, rfl, rfl, Nat.le_refl _, fun _ _ _ => rfl⟩ id
    simpa [vals] using hown
  | some p =>
    refine wp_append_own _ s x 26 ho base 5 i0 (.int .u8 0) 1 1 Tryz.underlying26 hi0 hz0 hz1 hz2 rfl (by decide) v k xs hs hown p n c (vals Y n) hx (by simp [vals]) ?_ vals_one (by unfold maxLen; omega) (by omega) hbase (fun v' w' h1 h2 h3 => h v' w' h1 h2 (fun e => (h3.1 e).1))
    intro j u hu
    obtain ⟨hj, rfl⟩ := vals_cell hu
    have hp : p = ⟨b, off, none⟩ := Option.some.inj (hv.at_ (by omega))
    subst hp
    rw [Go.WideShapes.add_plain]
    exact hv.cell j hj
end Go.Proofs.YtlhllbggnpcoaaaGreatDoor
