import Derived.Test.YtlhllbggnpcoaaaDoorPso
/-
  Forgeries in memory, and slices.SortFunc of them.
-/
namespace Go.Proofs.YtlhllbggnpcoaaaDoor
open Go.RowKit Go.Sort Go.Maps

/-- a forgery: its body's slice, what it holds, its code -/
structure FG where
  u : Value
  s : List Nat
  k : List Nat
def FG.enc (q : FG) : List Value := q.u :: bv q.k
structure FOk (w : World) (B : Nat) (q : FG) : Prop where
  str : Str w (fun i => B ≤ i) q.u q.s
  key : IsH q.k
theorem FOk.turn {G : Nat → Prop} {w w' : World} {B : Nat} {q : FG} (h : FOk w B q) (t : Turn G w w') (hG : ∀ i, G i → i < w.heap.size → ∃ o, w.heap[i]? = some o ∧ ∀ cs fz, o ≠ .cells cs 5 fz) : FOk w' B q :=
  ⟨⟨own_turn h.str.own t (fun g hg hGg => by
    obtain ⟨o, ho, hne⟩ := hG g hGg (h.str.own.lt g hg).2
    obtain ⟨cur, hc⟩ := own_block h.str.own hg
    rw [hc] at ho
    exact hne _ _ (Option.some.inj ho).symm), h.str.foot, h.str.ok⟩, h.key⟩

set_option maxRecDepth 100000 in
set_option maxHeartbeats 1600000 in
theorem compareF_walk (W : World) (X Y : Array Value) (pa pc : Option Addr) (n1 ca n3 cc : Nat) (hX : X[0]? = some (.slice pa n1 ca)) (hY : Y[0]? = some (.slice pc n3 cc)) (r1 : Int)
    (c1 : Calls Tryd.prog 33 #[.slice pa n1 ca, .slice pc n3 cc] ((W.alloc (.cells X 47)).alloc (.cells Y 47)) fun e w' => e = .returned (.int .i64 r1) ∧ w' = ((W.alloc (.cells X 47)).alloc (.cells Y 47))) :
    Calls Tryd.prog 32 #[.agg X, .agg Y] W fun e w' => e = .returned (.int .i64 r1) ∧ w' = ((W.alloc (.cells X 47)).alloc (.cells Y 47)) := by
  go_enter Tryd.func32, Tryd.ntmps32
  go_wp2_with (refine c1.mono ?_; rintro _ w' ⟨rfl, hw'⟩; have hw'' := hw'.symm; subst hw'')
  go_ret
  exact ⟨rfl, rfl⟩
theorem compareForged_any (W : World) (B : Nat) (x y : FG) (hx : FOk W B x) (hy : FOk W B y) :
    Calls Tryd.prog 32 #[.agg (x.u :: bv x.k).toArray, .agg (y.u :: bv y.k).toArray] W fun e w' => e = .returned (.int .i64 (cmpL x.s y.s)) ∧ ∃ q os', w' = grow (W.drewN q) os' := by
  obtain ⟨pa, ga, ca, ea, _, wa, _⟩ := hx.str.view
  obtain ⟨pc, gc, cc, ec, _, wc, _⟩ := hy.str.view
  have hb : Below W.heap.size W ((W.alloc (.cells (x.u :: bv x.k).toArray 47)).alloc (.cells (y.u :: bv y.k).toArray 47)) := ((Below.refl _ _).alloc (Nat.le_refl _) _).alloc (by simp) _
  have c1 := compare_any _ pa pc ga 0 ca gc 0 cc x.s y.s (wa.below hb) (wc.below hb)
  refine (compareF_walk W _ _ pa pc _ ca _ cc (by rw [ea]; rfl) (by rw [ec]; rfl) _ c1).mono ?_
  rintro _ w' ⟨rfl, rfl⟩
  exact ⟨rfl, 0, _, by rw [alloc_eq_grow, alloc_eq_grow, grow_grow]; rfl⟩

abbrev OkF (w : World) (B : Nat) : Type := { q : FG // FOk w B q }
theorem isH0 : IsH (List.replicate 32 0) := ⟨by simp, fun x hx => by rw [List.eq_of_mem_replicate hx]; decide⟩
instance (w : World) (B : Nat) : Inhabited (OkF w B) := ⟨⟨⟨nilS, [], List.replicate 32 0⟩, nil_str _ _, isH0⟩⟩
def encF {w : World} {B : Nat} (x : OkF w B) : List Value := x.1.enc
def cfF {w : World} {B : Nat} (x y : OkF w B) : Int := cmpL x.1.s y.1.s
theorem swoF {w : World} {B : Nat} : SWO (ltOf (cfF (w := w) (B := B))) := by
  have e : ∀ x y : OkF w B, ltOf cfF x y = true ↔ lt x.1.s y.1.s := fun x y => by
    unfold ltOf cfF
    rw [decide_eq_true_eq]
    exact Iff.rfl
  have f : ∀ x y : OkF w B, ltOf cfF x y = false ↔ ¬ lt x.1.s y.1.s := fun x y => by rw [← e, Bool.not_eq_true]
  refine ⟨fun x => ?_, fun x y z => ?_, fun x y z => ?_⟩
  · rw [f]; exact lt_irrefl _
  · rw [e, e, e]; exact lt_trans
  · rw [f, f, f]
    intro h1 h2 h3
    rcases lt_tri x.1.s y.1.s with q | q | q
    · exact h1 q
    · rw [q] at h3; exact h2 h3
    · exact h2 (lt_trans q h3)
theorem infoF : (Tryd.prog.info? 47).map (fun i => (i.zero, i.size, i.bytes)) = some (some (.agg (nilS :: bv (List.replicate 32 0)).toArray), 33, 56) := by kernel_rfl

/-- FORGERIES THAT THE CALL OWNS, SORTED. -/
theorem sortForged (w : World) (B g cap : Nat) (Q : List FG) (own : w.ownsRow B 47 33 (.slice (some ⟨g, 0, none⟩) Q.length cap) Q.length (Q.flatMap FG.enc)) (ok : ∀ q ∈ Q, FOk w B q) (hl : Q.length < 4611686018427387904) :
    Calls Tryd.prog 31 #[.slice (some ⟨g, 0, none⟩) Q.length cap, .func (.func 32) #[] #[]] w fun e w' => e = .returned (.tuple #[]) ∧
      ∃ Q' : List FG, Q'.Perm Q ∧ Q'.Pairwise (fun x y => ¬ lt y.s x.s) ∧ w'.ownsRow B 47 33 (.slice (some ⟨g, 0, none⟩) Q'.length cap) Q'.length (Q'.flatMap FG.enc) ∧ (∀ q ∈ Q', FOk w' B q) ∧ Turn (fun i => i = g) w w' := by
  have hk : ∀ x : OkF w B, (encF x).length = 33 := fun x => by unfold encF FG.enc; rw [List.length_cons, bv_len, x.2.key.1]
  have fm : ∀ l : List (OkF w B), l.flatMap encF = (l.map (·.1)).flatMap FG.enc := fun l => by rw [List.flatMap_map]; rfl
  obtain ⟨l, rfl⟩ : ∃ l : List (OkF w B), Q = l.map (·.1) := ⟨Q.attach.map (fun q => ⟨q.1, ok q.1 q.2⟩), by simp⟩
  have el : (l.map (·.1)).length = l.toArray.size := by simp
  have own' : w.ownsRow B 47 33 (.slice (some ⟨g, 0, none⟩) l.toArray.size cap) l.toArray.size (l.toArray.toList.flatMap encF) := by rw [fm]; rw [el] at own; exact own
  obtain ⟨hH, hg, hB⟩ := own_holds encF 33 hk (by decide) own'
  have rowT : ∀ i, i = g → i < w.heap.size → ∃ o, w.heap[i]? = some o ∧ ∀ cs fz, o ≠ .cells cs 5 fz := fun i hi _ => by
    subst hi
    obtain ⟨cur, hc⟩ := own_block own' (g := i) rfl
    exact ⟨_, hc, fun cs fz z => by injection z with _ z; exact absurd z (by decide)⟩
  have eg : ∀ args w, (callFunc 32 args).run Tryd.prog w = .ok (.enter 32 args) w := enters_of Tryd.func32 (by kernel_rfl) rfl
  have lays : CmpLays Tryd.prog 32 #[] (encF (w := w) (B := B)) 33 cfF g 0 l.toArray.size w := fun m os dk hs x y => by
    have tn := (own_sorted encF 33 hk (by decide) own' dk hs m os).2
    exact compareForged_any _ B x.1 y.1 (x.2.turn tn rowT) (y.2.turn tn rowT)
  have hcon := AnyQ.slices_SortFunc sortF 33 Tryd.isAgg47 Tryd.sizeOf47 (encF (w := w) (B := B)) hk (fun x v hv => by
      simp only [encF, FG.enc, List.mem_cons] at hv
      rcases hv with rfl | hv
      · exact x.2.str.one
      · obtain ⟨z, _, rfl⟩ := List.mem_map.1 hv; rfl) cfF swoF 32 #[] g 0 cap l.toArray w eg lays hH hg (by rw [← el]; exact hl)
  change Calls Tryd.prog 31 _ _ _ at hcon
  rw [el]
  refine hcon.mono ?_
  rintro e w' ⟨rfl, d', n, os, hp, hs, rfl⟩
  obtain ⟨o1, t1⟩ := own_sorted encF 33 hk (by decide) own' d' hp.1 n os
  have ex : ∀ d : Array (OkF w B), d.size = l.toArray.size → (d.extract 0 l.toArray.size).toList = d.toList := fun d h => by rw [← h]; simp
  have hperm : d'.toList.Perm l := by
    have := hp.2.2
    rw [ex d' hp.1, ex _ rfl] at this
    simpa using this
  have el' : (d'.toList.map (·.1)).length = l.toArray.size := by simp [hp.1]
  refine ⟨rfl, d'.toList.map (·.1), hperm.map _, ?_, ?_, fun q hq => ?_, t1⟩
  · rw [List.pairwise_map, List.pairwise_iff_getElem]
    intro i j hi hj hij
    have h2 := hs i j (Nat.zero_le _) hij (by rw [← hp.1]; simpa using hj)
    have hi' : i < d'.size := by simpa using hi
    have hj' : j < d'.size := by simpa using hj
    rw [getElem!_pos d' i hi', getElem!_pos d' j hj'] at h2
    unfold ltOf cfF at h2
    rw [decide_eq_false_iff_not] at h2
    have h3 : ¬ lt d'[j].1.s d'[i].1.s := h2
    simpa using h3
  · rw [el', ← fm]
    exact o1
  · obtain ⟨x, hx, rfl⟩ := List.mem_map.1 hq
    exact x.2.turn t1 rowT
end Go.Proofs.YtlhllbggnpcoaaaDoor
