import Derived.Test.YtlhllbggnpcoaaaDoorEqH
import Derived.Test.YtlhllbggnpcoaaaDoorPrs
import Derived.Test.YtlhllbggnpcoaaaDoorNts
import Derived.Test.YtlhllbggnpcoaaaDoorLay
import Derived.Test.YtlhllbggnpcoaaaDoorSrt
/-
  Pairs in memory, and slices.SortFunc of them.
-/
namespace Go.Proofs.YtlhllbggnpcoaaaDoor
open Go.RowKit Go.Sort Go.Maps

/-- a pair: its two slices, and what they hold -/
structure PR where
  ua : Value
  a : List Nat
  ub : Value
  b : List Nat
def PR.enc (q : PR) : List Value := [q.ua, q.ub]
def PR.ab (q : PR) : List Nat × List Nat := (q.a, q.b)
structure POk (w : World) (B : Nat) (q : PR) : Prop where
  sa : Str w (fun i => B ≤ i) q.ua q.a
  sb : Str w (fun i => B ≤ i) q.ub q.b
def cfP (p q : List Nat × List Nat) : Int := if cmpL p.1 q.1 ≠ 0 then cmpL p.1 q.1 else cmpL p.2 q.2

theorem POk.turn {G : Nat → Prop} {w w' : World} {B : Nat} {q : PR} (h : POk w B q) (t : Turn G w w') (hG : ∀ i, G i → i < w.heap.size → ∃ o, w.heap[i]? = some o ∧ ∀ cs fz, o ≠ .cells cs 5 fz) : POk w' B q := by
  have hn : ∀ {u : Value} {s : List Nat}, Str w (fun i => B ≤ i) u s → Str w' (fun i => B ≤ i) u s := fun hs => ⟨own_turn hs.own t (fun g hg hGg => by
    obtain ⟨o, ho, hne⟩ := hG g hGg (hs.own.lt g hg).2
    obtain ⟨cur, hc⟩ := own_block hs.own hg
    rw [hc] at ho
    exact hne _ _ (Option.some.inj ho).symm), hs.foot, hs.ok⟩
  exact ⟨hn h.sa, hn h.sb⟩

set_option maxRecDepth 100000 in
set_option maxHeartbeats 1600000 in
theorem comparePairs_any (W : World) (B : Nat) (x y : PR) (hx : POk W B x) (hy : POk W B y) :
    Calls Tryd.prog 48 #[.agg #[x.ua, x.ub], .agg #[y.ua, y.ub]] W fun e w' => e = .returned (.int .i64 (cfP x.ab y.ab)) ∧ ∃ q os', w' = grow (W.drewN q) os' := by
  obtain ⟨ua, a, ub, b⟩ := x
  obtain ⟨va, c, vb, d⟩ := y
  have xa : Str W (fun i => B ≤ i) ua a := hx.sa
  have xb : Str W (fun i => B ≤ i) ub b := hx.sb
  have ya : Str W (fun i => B ≤ i) va c := hy.sa
  have yb : Str W (fun i => B ≤ i) vb d := hy.sb
  clear hx hy
  obtain ⟨pa, ga, ca, rfl, _, wa, _⟩ := xa.view
  obtain ⟨pb, gb, cb, rfl, _, wb, _⟩ := xb.view
  obtain ⟨pc, gc, cc, rfl, _, wc, _⟩ := ya.view
  obtain ⟨pd, gd, cd, rfl, _, wd, _⟩ := yb.view
  have hb : Below W.heap.size W ((W.alloc (.cells #[.slice pa a.length ca, .slice pb b.length cb] 43)).alloc (.cells #[.slice pc c.length cc, .slice pd d.length cd] 43)) := ((Below.refl _ _).alloc (Nat.le_refl _) _).alloc (by simp) _
  have c1 := compare_any _ pa pc ga 0 ca gc 0 cc a c (wa.below hb) (wc.below hb)
  have c2 := compare_any _ pb pd gb 0 cb gd 0 cd b d (wb.below hb) (wd.below hb)
  have HE : Hid (∃ q os', ((W.alloc (.cells #[.slice pa a.length ca, .slice pb b.length cb] 43)).alloc (.cells #[.slice pc c.length cc, .slice pd d.length cd] 43)) = grow (W.drewN q) os') := ⟨0, _, by rw [alloc_eq_grow, alloc_eq_grow, grow_grow]; rfl⟩
  clear xa xb ya yb wa wb wc wd hb
  show Calls Tryd.prog 48 #[.agg #[.slice pa a.length ca, .slice pb b.length cb], .agg #[.slice pc c.length cc, .slice pd d.length cd]] W _
  have e0 : cfP (PR.ab ⟨.slice pa a.length ca, a, .slice pb b.length cb, b⟩) (PR.ab ⟨.slice pc c.length cc, c, .slice pd d.length cd, d⟩) = if cmpL a c ≠ 0 then cmpL a c else cmpL b d := rfl
  rw [e0]
  clear e0
  generalize cmpL a c = r1 at c1 ⊢
  generalize cmpL b d = r2 at c2 ⊢
  generalize a.length = n1 at c1 c2 HE ⊢
  generalize b.length = n2 at c1 c2 HE ⊢
  generalize c.length = n3 at c1 c2 HE ⊢
  generalize d.length = n4 at c1 c2 HE ⊢
  by_cases h1 : r1 = 0
  · subst h1
    go_enter Tryd.func48, Tryd.ntmps48
    go_wp2_with (first
      | (refine c1.mono ?_; rintro _ w' ⟨rfl, hw'⟩; have hw'' := hw'.symm; subst hw'')
      | (refine c2.mono ?_; rintro _ w' ⟨rfl, hw'⟩; have hw'' := hw'.symm; subst hw''))
    go_ret
    exact ⟨rfl, HE.out⟩
  · go_enter Tryd.func48, Tryd.ntmps48
    go_wp2_with (first
      | (refine c1.mono ?_; rintro _ w' ⟨rfl, hw'⟩; have hw'' := hw'.symm; subst hw'')
      | (refine c2.mono ?_; rintro _ w' ⟨rfl, hw'⟩; have hw'' := hw'.symm; subst hw''))
    go_ret
    exact ⟨rfl, HE.out⟩

/-- the pairs that are good in a world -/
abbrev OkP (w : World) (B : Nat) : Type := { q : PR // POk w B q }
theorem nil_str (w : World) (F : Nat → Prop) : Str w F nilS [] := ⟨World.ownsRow_nil _ _ _ _, fun g hg => by simp [nilS, Value.ownBlock] at hg, by decide, by simp⟩
instance (w : World) (B : Nat) : Inhabited (OkP w B) := ⟨⟨⟨nilS, [], nilS, []⟩, nil_str _ _, nil_str _ _⟩⟩
def encP {w : World} {B : Nat} (x : OkP w B) : List Value := x.1.enc
def cfPP {w : World} {B : Nat} (x y : OkP w B) : Int := cfP x.1.ab y.1.ab
theorem cfP_lt (p q : List Nat × List Nat) : cfP p q < 0 ↔ ltP p q := by
  unfold cfP ltP
  by_cases h : cmpL p.1 q.1 = 0
  · rw [if_neg (fun k => k h)]
    have e := cmpL_zero.1 h
    rw [e]
    exact ⟨fun k => Or.inr ⟨rfl, k⟩, fun k => k.elim (fun z => absurd z (lt_irrefl _)) (fun z => z.2)⟩
  · rw [if_pos h]
    refine ⟨fun k => Or.inl k, fun k => k.elim id (fun z => absurd (cmpL_zero.2 z.1) h)⟩
theorem swoP {w : World} {B : Nat} : SWO (ltOf (cfPP (w := w) (B := B))) := by
  have e : ∀ x y : OkP w B, ltOf cfPP x y = true ↔ ltP x.1.ab y.1.ab := fun x y => by
    unfold ltOf cfPP
    rw [decide_eq_true_eq]
    exact cfP_lt _ _
  have f : ∀ x y : OkP w B, ltOf cfPP x y = false ↔ ¬ ltP x.1.ab y.1.ab := fun x y => by rw [← e, Bool.not_eq_true]
  refine ⟨fun x => ?_, fun x y z => ?_, fun x y z => ?_⟩
  · rw [f]; exact ltP_irrefl _
  · rw [e, e, e]; exact ltP_trans _ _ _
  · rw [f, f, f]
    intro h1 h2 h3
    rcases ltP_tri x.1.ab y.1.ab with q | q | q
    · exact h1 q
    · rw [q] at h3; exact h2 h3
    · exact h2 (ltP_trans _ _ _ q h3)

theorem infoP : (Tryd.prog.info? 43).map (fun i => (i.zero, i.size, i.bytes)) = some (some (.agg #[nilS, nilS]), 2, 48) := by kernel_rfl

/-- PAIRS THAT THE CALL OWNS, SORTED. -/
theorem sortPairs (w : World) (B g cap : Nat) (Q : List PR) (own : w.ownsRow B 43 2 (.slice (some ⟨g, 0, none⟩) Q.length cap) Q.length (Q.flatMap PR.enc)) (ok : ∀ q ∈ Q, POk w B q) (hl : Q.length < 4611686018427387904) :
    Calls Tryd.prog 47 #[.slice (some ⟨g, 0, none⟩) Q.length cap, .func (.func 48) #[] #[]] w fun e w' => e = .returned (.tuple #[]) ∧
      ∃ Q' : List PR, Q'.Perm Q ∧ Q'.Pairwise (fun x y => ¬ ltP y.ab x.ab) ∧ w'.ownsRow B 43 2 (.slice (some ⟨g, 0, none⟩) Q'.length cap) Q'.length (Q'.flatMap PR.enc) ∧ (∀ q ∈ Q', POk w' B q) ∧ Turn (fun i => i = g) w w' := by
  have hk : ∀ x : OkP w B, (encP x).length = 2 := fun _ => rfl
  have fm : ∀ l : List (OkP w B), l.flatMap encP = (l.map (·.1)).flatMap PR.enc := fun l => by rw [List.flatMap_map]; rfl
  obtain ⟨l, rfl⟩ : ∃ l : List (OkP w B), Q = l.map (·.1) := ⟨Q.attach.map (fun q => ⟨q.1, ok q.1 q.2⟩), by simp⟩
  have el : (l.map (·.1)).length = l.toArray.size := by simp
  have own' : w.ownsRow B 43 2 (.slice (some ⟨g, 0, none⟩) l.toArray.size cap) l.toArray.size (l.toArray.toList.flatMap encP) := by rw [fm]; rw [el] at own; exact own
  obtain ⟨hH, hg, hB⟩ := own_holds encP 2 hk (by decide) own'
  have rowT : ∀ i, i = g → i < w.heap.size → ∃ o, w.heap[i]? = some o ∧ ∀ cs fz, o ≠ .cells cs 5 fz := fun i hi _ => by
    subst hi
    obtain ⟨cur, hc⟩ := own_block own' (g := i) rfl
    exact ⟨_, hc, fun cs fz z => by injection z with _ z; exact absurd z (by decide)⟩
  have eg : ∀ args w, (callFunc 48 args).run Tryd.prog w = .ok (.enter 48 args) w := enters_of Tryd.func48 (by kernel_rfl) rfl
  have lays : CmpLays Tryd.prog 48 #[] (encP (w := w) (B := B)) 2 cfPP g 0 l.toArray.size w := fun m os dk hs x y => by
    have tn := (own_sorted encP 2 hk (by decide) own' dk hs m os).2
    exact comparePairs_any _ B x.1 y.1 (x.2.turn tn rowT) (y.2.turn tn rowT)
  have hcon := AnyQ.slices_SortFunc sortP 2 Tryd.isAgg43 Tryd.sizeOf43 (encP (w := w) (B := B)) hk (fun x v hv => by
      simp only [encP, PR.enc, List.mem_cons, List.not_mem_nil, or_false] at hv
      rcases hv with rfl | rfl
      · exact x.2.sa.one
      · exact x.2.sb.one) cfPP swoP 48 #[] g 0 cap l.toArray w eg lays hH hg (by rw [← el]; exact hl)
  change Calls Tryd.prog 47 _ _ _ at hcon
  rw [el]
  refine hcon.mono ?_
  rintro e w' ⟨rfl, d', n, os, hp, hs, rfl⟩
  obtain ⟨o1, t1⟩ := own_sorted encP 2 hk (by decide) own' d' hp.1 n os
  have ex : ∀ d : Array (OkP w B), d.size = l.toArray.size → (d.extract 0 l.toArray.size).toList = d.toList := fun d h => by rw [← h]; simp
  have hperm : d'.toList.Perm l := by
    have := hp.2.2
    rw [ex d' hp.1, ex _ rfl] at this
    simpa using this
  have el' : (d'.toList.map (·.1)).length = l.toArray.size := by simp [hp.1]
  refine ⟨rfl, d'.toList.map (·.1), hperm.map _, ?_, ?_, fun q hq => ?_, t1⟩
  · rw [List.pairwise_map, List.pairwise_iff_getElem]
    intro i j hi hj hij
    have h2 := hs i j (Nat.zero_le _) hij (by rw [← hp.1]; simpa using hj)
    have hi' : i < d'.size := by simpa using hi
    have hj' : j < d'.size := by simpa using hj
    rw [getElem!_pos d' i hi', getElem!_pos d' j hj'] at h2
    unfold ltOf cfPP at h2
    rw [decide_eq_false_iff_not, cfP_lt] at h2
    simpa using h2
  · rw [el', ← fm]
    exact o1
  · obtain ⟨x, hx, rfl⟩ := List.mem_map.1 hq
    exact x.2.turn t1 rowT
end Go.Proofs.YtlhllbggnpcoaaaDoor
