import Derived.Test.YtlhllbggnpcoaaaGreatDoorPso
import Derived.Test.YtlhllbggnpcoaaaGreatDoorRefC1
/-
  Forgeries in memory, and slices.SortFunc of them.
-/
namespace Go.Proofs.YtlhllbggnpcoaaaGreatDoor
open Go.RowKit Go.Sort Go.Maps

/-- a forgery: its body's slice, what it holds, its code -/
structure FG where
  u : Value
  s : List Nat
  k : List Nat
def FG.enc (q : FG) : List Value := q.u :: bv q.k
structure FOk (w : World) (B : Nat) (q : FG) : Prop where
  str : Str w (fun i => B ≤ i) q.u q.s
  key : IsH q.k
theorem FOk.turn {G : Nat → Prop} {w w' : World} {B : Nat} {q : FG} (h : FOk w B q) (t : Turn G w w') (hG : ∀ i, G i → i < w.heap.size → ∃ o, w.heap[i]? = some o ∧ ∀ cs fz, o ≠ .cells cs 5 fz) : FOk w' B q :=
  ⟨⟨own_turn h.str.own t (fun g hg hGg => by
    obtain ⟨o, ho, hne⟩ := hG g hGg (h.str.own.lt g hg).2
    obtain ⟨cur, hc⟩ := own_block h.str.own hg
    rw [hc] at ho
    exact hne _ _ (Option.some.inj ho).symm), h.str.foot, h.str.ok⟩, h.key⟩

set_option maxRecDepth 100000 in
set_option maxHeartbeats 1600000 in
theorem compareF_walk (W : World) (X Y : Array Value) (pa pc : Option Addr) (n1 ca n3 cc : Nat) (hX : X[0]? = some (.slice pa n1 ca)) (hY : Y[0]? = some (.slice pc n3 cc)) (r1 : Int)
    (c1 : Calls Tryz.prog 37 #[.slice pa n1 ca, .slice pc n3 cc] ((W.alloc (.cells X 73)).alloc (.cells Y 73)) fun e w' => e = .returned (.int .i64 r1) ∧ w' = ((W.alloc (.cells X 73)).alloc (.cells Y 73))) :
    Calls Tryz.prog 36 #[.agg X, .agg Y] W fun e w' => e = .returned (.int .i64 r1) ∧ w' = ((W.alloc (.cells X 73)).alloc (.cells Y 73)) := by
  go_enter Tryz.func36, Tryz.ntmps36
  go_wp2_with (refine c1.mono ?_; rintro _ w' ⟨rfl, hw'⟩; have hw'' := hw'.symm; subst hw'')
  go_ret
  exact ⟨rfl, rfl⟩
theorem compareForged_any (W : World) (B : Nat) (x y : FG) (hx : FOk W B x) (hy : FOk W B y) :
    Calls Tryz.prog 36 #[.agg (x.u :: bv x.k).toArray, .agg (y.u :: bv y.k).toArray] W fun e w' => e = .returned (.int .i64 (cmpL x.s y.s)) ∧ ∃ q os', w' = grow (W.drewN q) os' := by
  obtain ⟨pa, ga, ca, ea, _, wa, _⟩ := hx.str.view
  obtain ⟨pc, gc, cc, ec, _, wc, _⟩ := hy.str.view
  have hb : Below W.heap.size W ((W.alloc (.cells (x.u :: bv x.k).toArray 73)).alloc (.cells (y.u :: bv y.k).toArray 73)) := ((Below.refl _ _).alloc (Nat.le_refl _) _).alloc (by simp) _
  have c1 := compare_any _ pa pc ga 0 ca gc 0 cc x.s y.s (wa.below hb) (wc.below hb)
  refine (compareF_walk W _ _ pa pc _ ca _ cc (by rw [ea]; rfl) (by rw [ec]; rfl) _ c1).mono ?_
  rintro _ w' ⟨rfl, rfl⟩
  exact ⟨rfl, 0, _, by rw [alloc_eq_grow, alloc_eq_grow, grow_grow]; rfl⟩

abbrev OkF (w : World) (B : Nat) : Type := { q : FG // FOk w B q }
theorem isH0 : IsH (List.replicate 32 0) := ⟨by simp, fun x hx => by rw [List.eq_of_mem_replicate hx]; decide⟩
instance (w : World) (B : Nat) : Inhabited (OkF w B) := ⟨⟨⟨nilS, [], List.replicate 32 0⟩, nil_str _ _, isH0⟩⟩
def encF {w : World} {B : Nat} (x : OkF w B) : List Value := x.1.enc
def cfF {w : World} {B : Nat} (x y : OkF w B) : Int := cmpL x.1.s y.1.s
theorem swoF {w : World} {B : Nat} : SWO (ltOf (cfF (w := w) (B := B))) := by
  have e : ∀ x y : OkF w B, ltOf cfF x y = true ↔ lt x.1.s y.1.s := fun x y => by
    unfold ltOf cfF
    rw [decide_eq_true_eq]
    exact Iff.rfl
  have f : ∀ x y : OkF w B, ltOf cfF x y = false ↔ ¬ lt x.1.s y.1.s := fun x y => by rw [← e, Bool.not_eq_true]
  refine ⟨fun x => ?_, fun x y z => ?_, fun x y z => ?_⟩
  · rw [f]; exact lt_irrefl _
  · rw [e, e, e]; exact lt_trans
  · rw [f, f, f]
    intro h1 h2 h3
    rcases lt_tri x.1.s y.1.s with q | q | q
    · exact h1 q
    · rw [q] at h3; exact h2 h3
    · exact h2 (lt_trans q h3)
theorem infoF : (Tryz.prog.info? 73).map (fun i => (i.zero, i.size, i.bytes)) = some (some (.agg (nilS :: bv (List.replicate 32 0)).toArray), 33, 56) := by kernel_rfl

/-- FORGERIES THAT THE CALL OWNS, SORTED. -/
theorem sortForged (w : World) (B g cap : Nat) (Q : List FG) (own : w.ownsRow B 73 33 (.slice (some ⟨g, 0, none⟩) Q.length cap) Q.length (Q.flatMap FG.enc)) (ok : ∀ q ∈ Q, FOk w B q) (hl : Q.length < 4611686018427387904) :
    Calls Tryz.prog 35 #[.slice (some ⟨g, 0, none⟩) Q.length cap, .func (.func 36) #[] #[]] w fun e w' => e = .returned (.tuple #[]) ∧
      ∃ Q' : List FG, Q'.Perm Q ∧ Q'.Pairwise (fun x y => ¬ lt y.s x.s) ∧ w'.ownsRow B 73 33 (.slice (some ⟨g, 0, none⟩) Q'.length cap) Q'.length (Q'.flatMap FG.enc) ∧ (∀ q ∈ Q', FOk w' B q) ∧ Turn (fun i => i = g) w w' := by
  have hk : ∀ x : OkF w B, (encF x).length = 33 := fun x => by unfold encF FG.enc; rw [List.length_cons, bv_len, x.2.key.1]
  have fm : ∀ l : List (OkF w B), l.flatMap encF = (l.map (·.1)).flatMap FG.enc := fun l => by rw [List.flatMap_map]; rfl
  obtain ⟨l, rfl⟩ : ∃ l : List (OkF w B), Q = l.map (·.1) := ⟨Q.attach.map (fun q => ⟨q.1, ok q.1 q.2⟩), by simp⟩
  have el : (l.map (·.1)).length = l.toArray.size := by simp
  have own' : w.ownsRow B 73 33 (.slice (some ⟨g, 0, none⟩) l.toArray.size cap) l.toArray.size (l.toArray.toList.flatMap encF) := by rw [fm]; rw [el] at own; exact own
  obtain ⟨hH, hg, hB⟩ := own_holds encF 33 hk (by decide) own'
  have rowT : ∀ i, i = g → i < w.heap.size → ∃ o, w.heap[i]? = some o ∧ ∀ cs fz, o ≠ .cells cs 5 fz := fun i hi _ => by
    subst hi
    obtain ⟨cur, hc⟩ := own_block own' (g := i) rfl
    exact ⟨_, hc, fun cs fz z => by injection z with _ z; exact absurd z (by decide)⟩
  have eg : ∀ args w, (callFunc 36 args).run Tryz.prog w = .ok (.enter 36 args) w := enters_of Tryz.func36 (by kernel_rfl) rfl
  have lays : CmpLays Tryz.prog 36 #[] (encF (w := w) (B := B)) 33 cfF g 0 l.toArray.size w := fun m os dk hs x y => by
    have tn := (own_sorted encF 33 hk (by decide) own' dk hs m os).2
    exact compareForged_any _ B x.1 y.1 (x.2.turn tn rowT) (y.2.turn tn rowT)
  have hcon := AnyQ.slices_SortFunc sortF 33 Tryz.isAgg73 Tryz.sizeOf73 (encF (w := w) (B := B)) hk (fun x v hv => by
      simp only [encF, FG.enc, List.mem_cons] at hv
      rcases hv with rfl | hv
      · exact x.2.str.one
      · obtain ⟨z, _, rfl⟩ := List.mem_map.1 hv; rfl) cfF swoF 36 #[] g 0 cap l.toArray w eg lays hH hg (by rw [← el]; exact hl)
  change Calls Tryz.prog 35 _ _ _ at hcon
  rw [el]
  refine hcon.mono ?_
  rintro e w' ⟨rfl, d', n, os, hp, hs, rfl⟩
  obtain ⟨o1, t1⟩ := own_sorted encF 33 hk (by decide) own' d' hp.1 n os
  have ex : ∀ d : Array (OkF w B), d.size = l.toArray.size → (d.extract 0 l.toArray.size).toList = d.toList := fun d h => by rw [← h]; simp
  have hperm : d'.toList.Perm l := by
    have := hp.2.2
    rw [ex d' hp.1, ex _ rfl] at this
    simpa using this
  have el' : (d'.toList.map (·.1)).length = l.toArray.size := by simp [hp.1]
  refine ⟨rfl, d'.toList.map (·.1), hperm.map _, ?_, ?_, fun q hq => ?_, t1⟩
  · rw [List.pairwise_map, List.pairwise_iff_getElem]
    intro i j hi hj hij
    have h2 := hs i j (Nat.zero_le _) hij (by rw [← hp.1]; simpa using hj)
    have hi' : i < d'.size := by simpa using hi
    have hj' : j < d'.size := by simpa using hj
    rw [getElem!_pos d' i hi', getElem!_pos d' j hj'] at h2
    unfold ltOf cfF at h2
    rw [decide_eq_false_iff_not] at h2
    have h3 : ¬ lt d'[j].1.s d'[i].1.s := h2
    simpa using h3
  · rw [el', ← fm]
    exact o1
  · obtain ⟨x, hx, rfl⟩ := List.mem_map.1 hq
    exact x.2.turn t1 rowT
end Go.Proofs.YtlhllbggnpcoaaaGreatDoor

/-
  The reference's notes in memory.
-/
namespace Go.Proofs.YtlhllbggnpcoaaaGreatDoor
open Go.RowKit Go.Sort Go.Maps

instance : Inhabited FG := ⟨⟨nilS, [], []⟩⟩
/-- what was noted, as the reference keeps it: all that is read lies in F's blocks -/
structure NL (w : World) (F : Nat → Prop) (v : Value) (Q : List FG) : Prop where
  own : w.ownsRow 0 105 33 v Q.length (Q.flatMap FG.enc)
  foot : ∀ g, v.ownBlock = some g → F g
  str : ∀ q ∈ Q, Str w F q.u q.s
  key : ∀ q ∈ Q, IsH q.k
theorem NL.nil (w : World) (F : Nat → Prop) : NL w F (.slice none 0 0) [] := ⟨World.ownsRow_nil _ _ _ _, fun g hg => by simp [Value.ownBlock] at hg, fun q hq => by simp at hq, fun q hq => by simp at hq⟩
theorem NL.turn {w w' : World} {F G : Nat → Prop} {v : Value} {Q : List FG} (h : NL w F v Q) (t : Turn G w w') (hd : ∀ i, F i → ¬ G i) : NL w' F v Q :=
  ⟨own_turn h.own t (fun g hg => hd g (h.foot g hg)), h.foot, fun q hq => (h.str q hq).turn t (fun i hi _ => hd i hi), h.key⟩
theorem NL.below {w w' : World} {F : Nat → Prop} {v : Value} {Q : List FG} (h : NL w F v Q) (hb : Below w.heap.size w w') : NL w' F v Q := h.turn (Turn.of_below hb (F := fun _ => False)) (fun _ _ q => q)
theorem NL.mono {w : World} {F F' : Nat → Prop} {v : Value} {Q : List FG} (h : NL w F v Q) (hf : ∀ i, F i → F' i) : NL w F' v Q :=
  ⟨h.own, fun g hg => hf g (h.foot g hg), fun q hq => ⟨(h.str q hq).own, fun g hg => hf g ((h.str q hq).foot g hg), (h.str q hq).ok⟩, h.key⟩
theorem encF_len {q : FG} (h : IsH q.k) : q.enc.length = 33 := by unfold FG.enc; rw [List.length_cons, bv_len, h.1]
theorem flatF_get : ∀ {Q : List FG} (_ : ∀ q ∈ Q, IsH q.k) (i : Nat) (hi : i < Q.length) (j : Nat) (_ : j < 33), (Q.flatMap FG.enc)[i * 33 + j]? = (Q[i].enc)[j]?
  | q :: Q, hk, 0, _, j, hj => by
    rw [List.flatMap_cons, List.getElem?_append_left (by rw [encF_len (hk q (by simp))]; omega)]
    simp
  | q :: Q, hk, i + 1, hi, j, hj => by
    rw [List.flatMap_cons, List.getElem?_append_right (by rw [encF_len (hk q (by simp))]; omega), encF_len (hk q (by simp)), show (i + 1) * 33 + j - 33 = i * 33 + j by omega]
    exact flatF_get (fun x hx => hk x (by simp [hx])) i (by simpa using hi) j hj
/-- one of them, as it lies -/
theorem NL.at_ {w : World} {F : Nat → Prop} {v : Value} {Q : List FG} (h : NL w F v Q) (hQ : 0 < Q.length) : ∃ g cap, v = .slice (some ⟨g, 0, none⟩) Q.length cap ∧ F g ∧ Q.length ≤ cap ∧ ∀ i (hi : i < Q.length), (∃ p gp c, w.cell? ⟨g, i * 33, none⟩ = some (.slice p Q[i].s.length c) ∧ Vw w p gp 0 Q[i].s) ∧ w.rangeAt g (i * 33 + 1) (bv Q[i].k) := by
  have ho := h.own
  rcases ho.2 with ⟨_, h0⟩ | ⟨g, cap, cur, rfl, hb, hgg, hn, hm, hs, ht⟩
  · omega
  · refine ⟨g, cap, rfl, h.foot g rfl, hn, fun i hi => ?_⟩
    have hm' : Q[i] ∈ Q := List.getElem_mem hi
    have ce : ∀ j u, (Q[i].enc)[j]? = some u → w.cell? ⟨g, i * 33 + j, none⟩ = some u := fun j u hu => by
      have hj : j < 33 := by
        obtain ⟨hl, _⟩ := List.getElem?_eq_some_iff.1 hu
        rw [encF_len (h.key _ hm')] at hl
        exact hl
      have hc := ho.cells (g := g) rfl (i * 33 + j) u ((flatF_get h.key i hi j hj).trans hu)
      rw [← hc]
      congr 1
      unfold Addr.add
      split <;> simp_all
    obtain ⟨p, gp, c, e, _, hv, _⟩ := (h.str _ hm').view
    refine ⟨⟨p, gp, c, ?_, hv⟩, fun j u hu => ?_⟩
    · have := ce 0 Q[i].u rfl
      rw [Nat.add_zero] at this
      rw [this, e]
    · have := ce (j + 1) u (by unfold FG.enc; rw [List.getElem?_cons_succ]; exact hu)
      rw [show i * 33 + 1 + j = i * 33 + (j + 1) by omega]
      exact this
theorem pos_here {t : List Nat} {L : List (List Nat)} (hr : Ris L) {m : Nat} (hm : m < L.length) (e : L[m] = t) : pos t L = m := by
  have h1 : ¬ m < pos t L := fun q => by
    have := (pos_get hr m hm).1 q
    rw [e] at this
    exact lt_irrefl _ this
  have h2 : ∀ i, i < m → i < pos t L := fun i hi => (pos_get hr i (by omega)).2 (by
    rw [← e]
    exact List.pairwise_iff_getElem.1 hr i m (by omega) hm hi)
  by_cases z : m = 0
  · omega
  · have := h2 (m - 1) (by omega)
    omega
end Go.Proofs.YtlhllbggnpcoaaaGreatDoor

/-
  cairnref04.place.
-/
namespace Go.Proofs.YtlhllbggnpcoaaaGreatDoor
open Go.RowKit Go.Sort Go.Maps

set_option maxRecDepth 100000 in
set_option maxHeartbeats 1600000 in
theorem rplace_any (w : World) (F : Nat → Prop) (v : Value) (Q : List FG) (h : NL w F v Q) (hr : Ris (Q.map FG.s)) (hn : Q.length ≤ 549755813888) (a : Option Addr) (b o c : Nat) (t : List Nat) (ht : Vw w a b o t) :
    Calls Tryz.prog 67 #[v, .slice a t.length c] w fun e w' => e = .returned (.tuple #[.int .i64 (pos t (Q.map FG.s) : Nat), .bool (decide (t ∈ Q.map FG.s))]) ∧ ∃ q, w' = w.drewN q := by
  obtain ⟨av, cv, ev⟩ : ∃ av cv, v = .slice av Q.length cv := by
    rcases h.own.2 with ⟨rfl, h0⟩ | ⟨g, cap, cur, rfl, _⟩
    · exact ⟨none, 0, by rw [h0]⟩
    · exact ⟨_, _, rfl⟩
  subst ev
  have HN : Hid (NL w F (.slice av Q.length cv) Q) := h
  have HR : Hid (Ris (Q.map FG.s)) := hr
  have HT : Hid (Vw w a b o t) := ht
  have HP : Hid (pos t (Q.map FG.s) ≤ Q.length) := by have := pos_le t (Q.map FG.s); rw [List.length_map] at this; exact this
  have HI : Hid (t ∈ Q.map FG.s → pos t (Q.map FG.s) < Q.length) := fun q => by obtain ⟨z, _⟩ := (pos_found HR.out).1 q; rw [List.length_map] at z; exact z
  obtain ⟨pp, epp⟩ : ∃ pp, pp = pos t (Q.map FG.s) := ⟨_, rfl⟩
  obtain ⟨th, eth⟩ : ∃ th, th = decide (t ∈ Q.map FG.s) := ⟨_, rfl⟩
  rw [← epp, ← eth]
  have HE : Hid (pp = pos t (Q.map FG.s) ∧ th = decide (t ∈ Q.map FG.s)) := ⟨epp, eth⟩
  clear h hr ht epp eth
  go_enter Tryz.func67, Tryz.ntmps67
  go_wp2_with fail
  go_loopg [6, 7] Q.length (fun g lo hi wr => ∃ l h : Nat, l ≤ h ∧ l ≤ pos t (Q.map FG.s) ∧ pos t (Q.map FG.s) ≤ h ∧ h ≤ Q.length ∧ (t ∈ Q.map FG.s → pos t (Q.map FG.s) < h) ∧ g = h - l ∧ lo = .int .i64 l ∧ hi = .int .i64 h ∧ ∃ q, wr = w.drewN q)
  case atStart => exact ⟨0, Q.length, Nat.zero_le _, Nat.zero_le _, HP.out, Nat.le_refl _, HI.out, rfl, rfl, rfl, 0, rfl⟩
  case round =>
    obtain ⟨l, h, hlh, h1, h2, h3, h4, rfl, rfl, rfl, q, rfl⟩ := hrel
    have HJ : Hid (l ≤ pos t (Q.map FG.s) ∧ pos t (Q.map FG.s) ≤ h ∧ (t ∈ Q.map FG.s → pos t (Q.map FG.s) < h)) := ⟨h1, h2, h4⟩
    clear h1 h2 h4
    by_cases hl : l < h
    · obtain ⟨m, hm⟩ : ∃ m, m = (l + h) / 2 := ⟨_, rfl⟩
      have e1 : ((l : Int) + (h : Int)) / 2 = (m : Int) := by omega
      have e2 : ((l : Int) + (h : Int)).tdiv 2 = (m : Int) := by rw [Int.tdiv_eq_ediv_of_nonneg (by omega)]; exact e1
      have lm : l ≤ m ∧ m < h := by omega
      have mq : m < Q.length := by omega
      have HM : Hid (m < Q.length) := mq
      obtain ⟨g, cap, ev, _, _, cells⟩ := HN.out.at_ (by omega)
      injection ev with ev1 ev2 ev3
      subst ev1
      subst ev3
      obtain ⟨⟨p, gp, cp, ce, vw⟩, _⟩ := cells m mq
      have b0 : Below w.heap.size w (w.drewN q) := below_drewN (Below.refl _ _) q
      have ce' : (w.drewN q).cell? ⟨g, m * 33, none⟩ = some (.slice p Q[m].s.length cp) := (b0.cell (p := ⟨g, m * 33, none⟩) (World.block_lt_of_cell? w ⟨g, m * 33, none⟩ ce)).trans ce
      have cm := rcmp_any (w.drewN q) p a gp 0 cp b o c Q[m].s t (vw.below b0) (HT.out.below b0)
      have HG : Hid (∀ (z : m < (Q.map FG.s).length), (Q.map FG.s)[m] = Q[m].s) := fun z => List.getElem_map FG.s
      generalize Q[m].s = s at ce' cm HG
      have i1 : (l : Int) < (h : Int) := by omega
      have i2 : (m : Int) < (Q.length : Int) := by omega
      clear ce vw cells ev2 hm
      have HL : Hid (m < (Q.map FG.s).length) := by rw [List.length_map]; exact mq
      rcases lt_tri s t with d | d | d
      · have cm' := cm
        rw [cmpL_lt d] at cm
        have HD : Hid (m < pos t (Q.map FG.s)) := (pos_get HR.out m HL.out).2 (by rw [HG.out HL.out]; exact d)
        clear cm' d
        go_wp2_with fail
        refine cm.mono ?_
        rintro _ w2 ⟨rfl, q2, rfl⟩
        clear ce'
        go_wp2_with fail
        go_roundg (h - (m + 1))
        case measure => omega
        case rel => exact ⟨m + 1, h, by omega, HD.out, HJ.out.2.1, h3, HJ.out.2.2, rfl, by go_num, rfl, q + q2, rfl⟩
      · subst d
        rw [cmpL_self] at cm
        have HD : Hid (pos s (Q.map FG.s) = m ∧ s ∈ Q.map FG.s) := ⟨pos_here HR.out HL.out (HG.out HL.out), by have := List.getElem_mem HL.out; rw [HG.out HL.out] at this; exact this⟩
        go_wp2_with fail
        refine cm.mono ?_
        rintro _ w2 ⟨rfl, q2, rfl⟩
        clear ce'
        go_wp2_with fail
        go_ret2
        have e8 : pp = m := HE.out.1.trans HD.out.1
        have e9 : th = true := HE.out.2.trans (decide_eq_true HD.out.2)
        subst e8
        subst e9
        exact ⟨rfl, q + q2, rfl⟩
      · rw [cmpL_gt d] at cm
        have nm : ¬ m < pos t (Q.map FG.s) := fun z => by
          have := (pos_get HR.out m HL.out).1 z
          rw [HG.out HL.out] at this
          exact lt_asymm this d
        have HD : Hid (pos t (Q.map FG.s) ≤ m ∧ (t ∈ Q.map FG.s → pos t (Q.map FG.s) < m)) := ⟨by omega, fun z => by
          obtain ⟨z1, z2⟩ := (pos_found HR.out).1 z
          rcases Nat.lt_or_ge (pos t (Q.map FG.s)) m with k | k
          · exact k
          · exfalso
            have e : pos t (Q.map FG.s) = m := by omega
            have z3 : (Q.map FG.s)[m]'HL.out = t := by rw [← z2]; congr 1; exact e.symm
            rw [HG.out HL.out] at z3
            rw [z3] at d
            exact lt_irrefl _ d⟩
        clear nm d
        go_wp2_with fail
        refine cm.mono ?_
        rintro _ w2 ⟨rfl, q2, rfl⟩
        clear ce'
        go_wp2_with fail
        go_roundg (m - l)
        case measure => omega
        case rel => exact ⟨l, m, by omega, HJ.out.1, HD.out.1, by omega, HD.out.2, rfl, rfl, rfl, q + q2, rfl⟩
    · have el : l = h := by omega
      subst el
      have HD : Hid (pos t (Q.map FG.s) = l ∧ t ∉ Q.map FG.s) := ⟨by have := HJ.out; omega, fun z => by have := HJ.out.2.2 z; have := HJ.out.1; omega⟩
      have i1 : ¬ (l : Int) < (l : Int) := by omega
      go_wp2_with fail
      go_ret2
      have e8 : pp = l := HE.out.1.trans HD.out.1
      have e9 : th = false := HE.out.2.trans (decide_eq_false HD.out.2)
      subst e8
      subst e9
      exact ⟨rfl, q, rfl⟩
end Go.Proofs.YtlhllbggnpcoaaaGreatDoor
