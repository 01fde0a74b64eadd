import Derived.Test.YtnbdpcpgckfeeaaGreatDoorXozz
import Derived.Test.YtnbdpcpgckfeeaaGreatDoorWmpzz
import Derived.Test.YtnbdpcpgckfeeaaGreatDoorC1zz
import Derived.Test.YtnbdpcpgckfeeaaGreatDoorWgzz
namespace Go.Ev
open Go Go.Proofs
theorem stp_under {N : Nat} {E : En} {s : St} {w w' : World} (h : Rel N E s w) (b : RowKit.Below w.heap.size w w') : Stp N E s w E s w' := by
 have hs := b.size
 refine ⟨.refl E, ⟨h.nx, h.lo, h.hi, h.base, Nat.le_trans h.flr hs, fun k o hk => ?_, h.flo, h.dis, h.grp, h.ro⟩, b.os, b.tape, b.output, hs, fun B hB _ => b.block B hB, fun k o hk ho => .inr ⟨k, o, hk, ho, rfl⟩⟩
 obtain ⟨h1, h2⟩ := h.ob k o hk
 refine ⟨h1, ?_⟩
 by_cases hd : o = .dead
 ·subst hd; trivial
 ·exact h2.keep (.refl E) h1 (b.block _ (h2.lt hd))
theorem stp_fresh {N : Nat} {E : En} {s : St} {w w' : World} (h : Rel N E s w) {A sh sz : Nat} {o : Ob} (hA : w.heap.size ≤ A) (hg : o.grp = s.nx) (hgn : s.gr.get s.nx = none) (hrw : o.rw)
  (b : RowKit.Below w.heap.size w w') (ho : ObR (E.push A sh sz) E.nx w' o) :
  Stp N E s w (E.push A sh sz) (.mk (s.hp.set o s.nx) (s.nx + 1) (s.gr.set [s.nx] s.nx)) w' := by
 have X := En.push_ext E A sh sz
 have gets : ∀ k, (s.hp.set o s.nx).get k = if k = E.nx then some o else s.hp.get k := fun k => by
  rw [Tr.get_set _ _ _ (Nat.lt_succ_self _), h.nx]
 have live : ∀ k q, (s.hp.set o s.nx).get k = some q → k ≠ E.nx → s.hp.get k = some q := fun k q hq hne => by rwa [gets, if_neg hne] at hq
 have notA : ∀ k q, s.hp.get k = some q → q ≠ .dead → E.ι k ≠ A := fun k q hq hd e => by
  have := (h.ob k q hq).2.lt hd; omega
 refine ⟨X, ⟨by show s.nx + 1 = E.nx + 1; rw [h.nx], Nat.le_trans h.lo (Nat.le_succ _), by show E.nx + 1 ≤ E.nx + 1 + 1; omega, fun k hk' => ?_, Nat.le_trans h.flr b.size, fun k q hq => ?_, fun k q hq hr => ?_, fun k q k' q' hq hq' hr hd hne he => ?_, fun k q hq hgr => ?_, fun k q hq hd hr => ?_⟩, b.os, b.tape, b.output, b.size, fun B hB hn => b.block B hB, fun k q hq hr => ?_⟩
 ·have hb' : k < E.nx := Nat.lt_of_lt_of_le hk' h.lo
  rw [X.ι k hb', X.sh k hb']; exact h.base k hk'
 ·have hq : (s.hp.set o s.nx).get k = some q := hq
  by_cases e : k = E.nx
  ·subst e
   rw [gets, if_pos rfl] at hq
   cases hq
   exact ⟨Nat.lt_succ_self _, ho⟩
  ·have h1 := live k q hq e
   obtain ⟨h3, h4⟩ := h.ob k q h1
   by_cases hd : q = .dead
   ·subst hd; exact ⟨Nat.lt_succ_of_lt h3, trivial⟩
   ·exact ⟨Nat.lt_succ_of_lt h3, h4.keep X h3 (b.block _ (h4.lt hd))⟩
 ·have hq : (s.hp.set o s.nx).get k = some q := hq
  by_cases e : k = E.nx
  ·subst e; rw [En.push_ι]; exact Nat.le_trans h.flr hA
  ·have h1 := live k q hq e
   rw [X.ι k (h.ob k q h1).1]; exact h.flo k q h1 hr
 ·have hq : (s.hp.set o s.nx).get k = some q := hq
  have hq' : (s.hp.set o s.nx).get k' = some q' := hq'
  have hqd : q ≠ .dead := fun e => by subst e; exact hr
  by_cases e : k = E.nx
  ·subst e
   have h1 := live k' q' hq' (fun e => hne e.symm)
   rw [En.push_ι, X.ι k' (h.ob k' q' h1).1] at he
   exact absurd he.symm (notA k' q' h1 hd)
  ·have h1 := live k q hq e
   by_cases e' : k' = E.nx
   ·subst e'
    rw [En.push_ι, X.ι k (h.ob k q h1).1] at he
    exact absurd he (notA k q h1 hqd)
   ·have h3 := live k' q' hq' e'
    rw [X.ι k (h.ob k q h1).1, X.ι k' (h.ob k' q' h3).1] at he
    rw [X.sh k (h.ob k q h1).1, X.sh k' (h.ob k' q' h3).1]
    exact h.dis k q k' q' h1 h3 hr hd hne he
 ·have hq : (s.hp.set o s.nx).get k = some q := hq
  by_cases e : k = E.nx
  ·subst e
   rw [gets, if_pos rfl] at hq
   cases hq
   refine ⟨[s.nx], ?_, by rw [h.nx]; exact List.mem_singleton.2 rfl⟩
   show (s.gr.set [s.nx] s.nx).get _ = _
   rw [hg, Tr.get_set _ _ _ (Nat.lt_succ_self _), if_pos rfl]
  ·have h1 := live k q hq e
   obtain ⟨ms, h2, h3⟩ := h.grp k q h1 hgr
   refine ⟨ms, ?_, h3⟩
   show (s.gr.set [s.nx] s.nx).get _ = _
   rw [Tr.get_set _ _ _ (Nat.lt_succ_self _), if_neg fun e => by rw [e, hgn] at h2; cases h2]
   exact h2
 ·have hq : (s.hp.set o s.nx).get k = some q := hq
  by_cases e : k = E.nx
  ·subst e
   rw [gets, if_pos rfl] at hq
   cases hq
   exact absurd hrw hr
  ·have h1 := live k q hq e
   rw [X.ι k (h.ob k q h1).1]; exact h.ro k q h1 hd hr
 ·have hq : (s.hp.set o s.nx).get k = some q := hq
  by_cases e : k = E.nx
  ·subst e
   rw [En.push_ι]
   exact .inl hA
  ·have h1 := live k q hq e
   exact .inr ⟨k, q, h1, hr, (X.ι k (h.ob k q h1).1).symm⟩
end Go.Ev
namespace Go.Sy
open Go Go.Ev
def ins1 (a : List Nat) : List (List Nat) → List (List Nat)
 | [] => [a]
 | b :: l => if lx a b ≤ 0 then a :: b :: l else b :: ins1 a l
def srt (l : List (List Nat)) : List (List Nat) := l.foldr ins1 []
theorem ins1_perm (a : List Nat) : ∀ l, (ins1 a l).Perm (a :: l)
 | [] => .refl _
 | b :: l => by
  unfold ins1
  split
  ·exact .refl _
  ·exact ((ins1_perm a l).cons b).trans (.swap a b l)
theorem srt_perm : ∀ l, (srt l).Perm l
 | [] => .refl _
 | a :: l => (ins1_perm a (srt l)).trans ((srt_perm l).cons a)
def Rise (l : List (List Nat)) : Prop := l.Pairwise fun a b => lx a b ≤ 0
theorem lx_tr {A B C : List Nat} (h : lx A B ≤ 0) (k : lx B C ≤ 0) : lx A C ≤ 0 := (lx_trans h k).1
theorem ins1_rise (a : List Nat) : ∀ l, Rise l → Rise (ins1 a l)
 | [], _ => List.pairwise_singleton ..
 | b :: l, h => by
  obtain ⟨h1, h2⟩ := List.pairwise_cons.1 h
  unfold ins1
  split
  ·rename_i e
   exact List.pairwise_cons.2 ⟨fun x hx => (by
    rcases List.mem_cons.1 hx with rfl | hx
    ·exact e
    ·exact lx_tr e (h1 x hx)), h⟩
  ·rename_i e
   refine List.pairwise_cons.2 ⟨fun x hx => ?_, ins1_rise a l h2⟩
   rcases List.mem_cons.1 ((ins1_perm a l).mem_iff.1 hx) with rfl | hx
   ·rw [lx_swap]; omega
   ·exact h1 x hx
theorem srt_rise : ∀ l, Rise (srt l)
 | [] => .nil
 | a :: l => ins1_rise a _ (srt_rise l)
theorem rise_eq {l l' : List (List Nat)} (h : Rise l) (h' : Rise l') (p : l.Perm l') : l = l' :=
 List.Perm.eq_of_pairwise (le := fun a b => lx a b ≤ 0) (fun a b _ _ h1 h2 => lx_zero.1 (by rw [lx_swap] at h2; omega)) h h' p
theorem hsh_inj {a b : List Nat} (h : hsh a = hsh b) : a = b := by
 have e : (Value.agg ⟨a.map nB⟩) = .agg ⟨b.map nB⟩ := h
 injection e with e
 injection e with e
 exact (List.map_inj_right (fun x y e => by injection e with _ e; injection e)).1 e
theorem ents_keys : ∀ {l l' : List (List Nat × Value × Nat)}, ents l = ents l' → l = l'
 | [], [], _ => rfl
 | [], _ :: _, h => by cases h
 | _ :: _, [], h => by cases h
 | x :: l, y :: l', h => by
  have h : (⟨hsh x.1, x.2.1, x.2.2⟩ : MapEntry) :: ents l = ⟨hsh y.1, y.2.1, y.2.2⟩ :: ents l' := h
  injection h with h1 h2
  injection h1 with a b c
  obtain ⟨x1, x2, x3⟩ := x
  obtain ⟨y1, y2, y3⟩ := y
  cases hsh_inj a
  cases b
  cases c
  rw [ents_keys h2]
end Go.Sy
namespace Go.Proofs.YtnbdpcpgckfeeaaGreatDoor
open Go Go.Ev Go.Sy
structure KGood (args : List Value) (s : St) (Bm o r : Nat) (l : List (List Nat × Value × Nat)) (c : Nat) : Prop where
 a : args = [.func (.func 95) #[] #[.pointer (some ⟨Bm, o, none⟩)], .func (.func 71) #[] #[]]
 b : readAt s Bm o 1 = some [.map (some r)]
 m : s.hp.get r = some (.map (ents l) c)
 k : ∀ x ∈ l, x.1.length = 32 ∧ ∀ y ∈ x.1, y < 256
 nk : (l.map (·.1)).Nodup
 nb : (l.map (·.2.2)).Nodup
 cl : ∀ x ∈ l, x.2.2 < c
 sz : l.length ≤ 4398046511104
 gr : s.gr.get s.nx = none
def keysOut (K : List (List Nat)) (s : St) : Rv := match K with
 | [] => .ok (.slice none 0 0) s
 | _ :: _ => .ok (.slice (some ⟨s.nx, 0, none⟩) K.length (least K.length 32)) (.mk (s.hp.set (.row ((srt K).flatMap (·.map nB)) s.nx) s.nx) (s.nx + 1) (s.gr.set [s.nx] s.nx))
theorem keysOut_ne {K : List (List Nat)} {s : St} (h : K ≠ []) : keysOut K s = .ok (.slice (some ⟨s.nx, 0, none⟩) K.length (least K.length 32)) (.mk (s.hp.set (.row ((srt K).flatMap (·.map nB)) s.nx) s.nx) (s.nx + 1) (s.gr.set [s.nx] s.nx)) := by
 cases K with
 | nil => exact absurd rfl h
 | cons => rfl
abbrev KX := Nat × Nat × Nat × List (List Nat × Value × Nat) × Nat
open Classical in
noncomputable def keysH (args : List Value) (s : St) : Rv :=
 if h : ∃ p : KX, KGood args s p.1 p.2.1 p.2.2.1 p.2.2.2.1 p.2.2.2.2 then keysOut ((Classical.choose h).2.2.2.1.map (·.1)) s else .no
theorem keysH_eq {args : List Value} {s : St} {Bm o r : Nat} {l : List (List Nat × Value × Nat)} {c : Nat} (g : KGood args s Bm o r l c) : keysH args s = keysOut (l.map (·.1)) s := by
 unfold keysH
 have h : ∃ p : KX, KGood args s p.1 p.2.1 p.2.2.1 p.2.2.2.1 p.2.2.2.2 := ⟨(Bm, o, r, l, c), g⟩
 rw [dif_pos h]
 have g' := Classical.choose_spec h
 generalize Classical.choose h = p at g'
 obtain ⟨Bm', o', r', l', c'⟩ := p
 have e := g.a.symm.trans g'.a
 injection e with e _
 injection e with _ _ e
 injection e with e
 injection e with e _
 injection e with e
 injection e with e
 injection e with e1 e2
 have b := g.b
 rw [e1, e2] at b
 have e3 := b.symm.trans g'.b
 injection e3 with e3
 injection e3 with e3 _
 injection e3 with e3
 injection e3 with e3
 have m := g.m
 rw [e3] at m
 have e4 := m.symm.trans g'.m
 injection e4 with e4
 injection e4 with e4 _
 rw [ents_keys e4]
open Go.RowKit Go.Maps Go.Sort Go.WideElems Go.WideShapes
set_option maxRecDepth 100000
noncomputable def unk (b : List UInt8) : List Nat := open Classical in if h : ∃ x : Hs, hkb x = b then (Classical.choose h).k else []
theorem unk_kb (x : Hs) : unk (hkb x) = x.k := by
 unfold unk
 have h : ∃ y : Hs, hkb y = hkb x := ⟨x, rfl⟩
 rw [dif_pos h]
 rw [kb_inj (Classical.choose_spec h)]
def toH (l : List (List Nat × Value × Nat)) (h : ∀ x ∈ l, x.1.length = 32 ∧ ∀ y ∈ x.1, y < 256) : List Hs := l.attach.map fun x => ⟨x.1.1, (h x.1 x.2).1, (h x.1 x.2).2⟩
theorem toH_k {l : List (List Nat × Value × Nat)} {h : ∀ x ∈ l, x.1.length = 32 ∧ ∀ y ∈ x.1, y < 256} : (toH l h).map (·.k) = l.map (·.1) := by
 unfold toH
 rw [List.map_map]
 have : ((fun x : Hs => x.k) ∘ fun x : { x // x ∈ l } => (⟨x.1.1, (h x.1 x.2).1, (h x.1 x.2).2⟩ : Hs)) = fun x : { x // x ∈ l } => x.1.1 := rfl
 rw [this]
 exact List.attach_map_val (f := fun x : List Nat × Value × Nat => x.1)
theorem entRs_get {E : En} : ∀ {es es' : List MapEntry}, EntRs E es es' → es'.map (·.key) = es.map (·.key) ∧ es'.map (·.born) = es.map (·.born)
 | _, _, .nil => ⟨rfl, rfl⟩
 | _, _, .cons e e' l l' h t => by
  obtain ⟨a, b⟩ := entRs_get t
  exact ⟨by rw [List.map_cons, List.map_cons, h.key, a], by rw [List.map_cons, List.map_cons, h.born, b]⟩
theorem own_map {E : En} {w : World} {b c : Nat} {es' : Array MapEntry} {l : List (List Nat × Value × Nat)} (hb : w.heap[b]? = some (.map es' c)) (he : EntRs E (ents l) es'.toList) (hk : ∀ x ∈ l, x.1.length = 32 ∧ ∀ y ∈ x.1, y < 256)
  (nk : (l.map (·.1)).Nodup) (nb : (l.map (·.2.2)).Nodup) (cl : ∀ x ∈ l, x.2.2 < c) (sz : l.length ≤ 4398046511104) :
  ∃ D : DataW Unit, w.ownsMap Tryz.prog 26 (fun _ => some ((.nil : DataW Unit), ([] : List MemPlace))) b es'.size D ∧ (strKeys D).Perm ((toH l hk).map hkb) ∧ Maps.size D = l.length := by
 obtain ⟨h1, h2⟩ := entRs_get he
 have k1 : (ents l).map (·.key) = (toH l hk).map hv := by
  have : ((toH l hk).map (·.k)).map hsh = (toH l hk).map hv := by rw [List.map_map]; rfl
  rw [← this, toH_k, List.map_map]
  unfold ents
  rw [List.map_map]; rfl
 have hl : es'.toList.length = l.length := by
  have := congrArg List.length h1
  rw [List.length_map, List.length_map] at this
  rw [this]; unfold ents; rw [List.length_map]
 have rdk : ∀ x ∈ es'.toList, ∃ h : Hs, x.key = hv h := fun x hx => by
  have : x.key ∈ es'.toList.map (·.key) := List.mem_map.2 ⟨x, hx, rfl⟩
  rw [h1, k1] at this
  obtain ⟨h, _, e⟩ := List.mem_map.1 this
  exact ⟨h, e.symm⟩
 have rdx : ∀ (x : MapEntry) (h : Hs), x.key = hv h → WideElems.rd Tryz.prog 26 (fun _ => some ((.nil : DataW Unit), ([] : List MemPlace))) x = some (.string (hkb h), .nil) := fun x h e => by
  unfold WideElems.rd
  rw [e, keyOf_hash]; rfl
 refine ⟨_, ⟨es', c, hb, ⟨by have : es'.size = l.length := hl; rw [this]; exact Nat.le_trans sz (by decide), ⟨fun x hx => ?_, ?_, ?_⟩, fun x hx => ?_⟩, Nat.le_refl _, rfl⟩, ?_, ?_⟩
 ·have : x.born ∈ es'.toList.map (·.born) := List.mem_map.2 ⟨x, hx, rfl⟩
  rw [h2] at this
  unfold ents at this
  rw [List.map_map] at this
  obtain ⟨y, hy, e⟩ := List.mem_map.1 this
  rw [← e]; exact cl y hy
 ·rw [h2]; unfold ents; rw [List.map_map]; exact nb
 ·rw [h1]; unfold ents; rw [List.map_map]
  have : ((fun x : MapEntry => x.key) ∘ fun x : List Nat × Value × Nat => (⟨hsh x.1, x.2.1, x.2.2⟩ : MapEntry)) = hsh ∘ fun x => x.1 := rfl
  rw [this, ← List.map_map]
  exact List.pairwise_map.2 (List.Pairwise.imp (fun h e => h (hsh_inj e)) nk)
 ·obtain ⟨h, e⟩ := rdk x hx
  exact ⟨_, rdx x h e⟩
 ·show (List.map _ _).Perm _
  refine ((sorted_perm _).map _).trans ?_
  rw [List.map_map]
  have e : es'.toList.map ((fun p : Lit × DataW Unit => strOf p.1) ∘ rg Tryz.prog 26 (fun _ => some ((.nil : DataW Unit), ([] : List MemPlace)))) = (toH l hk).map hkb := by
   have key : ∀ (a : List MapEntry) (q : List Hs), a.map (·.key) = q.map hv → a.map ((fun p : Lit × DataW Unit => strOf p.1) ∘ rg Tryz.prog 26 (fun _ => some ((.nil : DataW Unit), ([] : List MemPlace)))) = q.map hkb := fun a => by
    induction a with
    | nil => intro q hq; cases q with
     | nil => rfl
     | cons _ _ => cases hq
    | cons x a ih => intro q hq; cases q with
     | nil => cases hq
     | cons y q =>
      rw [List.map_cons, List.map_cons] at hq
      injection hq with q1 q2
      rw [List.map_cons, List.map_cons, ih q q2]
      congr 1
      show strOf (rg _ _ _ x).1 = _
      unfold rg
      rw [rdx x y q1]; rfl
   exact key _ _ (by rw [h1, k1])
  rw [e]
 ·show List.length _ = _
  rw [(sorted_perm _).length_eq, List.length_map, hl]
theorem keysH_ok {N : Nat} {args args' : List Value} {s s' : St} {v : Value} {E : En} {w : World} (h : Rel N E s w) (ha : VRs E args args') (hx : keysH args s = .ok v s') :
  Calls Tryz.prog 44 ⟨args'⟩ w fun e w' => ∃ E' v', e = .returned v' ∧ VR E' v v' ∧ Stp N E s w E' s' w' := by
 by_cases hg : ∃ p : KX, KGood args s p.1 p.2.1 p.2.2.1 p.2.2.2.1 p.2.2.2.2
 case neg => unfold keysH at hx; rw [dif_neg hg] at hx; cases hx
 obtain ⟨⟨Bm, o, r, l, c⟩, g⟩ := hg
 simp only at g
 rw [keysH_eq g] at hx
 have gk := g.k
 have e := g.a
 subst e
 cases ha with
 | cons _ a1 _ l1 ha1 ha =>
 cases ha with
 | cons _ a2 _ l2 ha2 ha =>
 cases ha
 obtain ⟨x1, y1, rfl, q1, q2⟩ := ha1.func_inv
 cases q1
 cases q2 with
 | cons _ p _ _ hp q2 =>
 cases q2
 obtain ⟨hBm, rfl⟩ := hp.ptr_inv
 obtain ⟨x2, y2, rfl, q3, q4⟩ := ha2.func_inv
 cases q3
 cases q4
 obtain ⟨r', j1, j2⟩ := readAt_cell Tryz.prog h.obs g.b
 cases j1 with
 | cons _ mv _ _ hm j1 =>
 cases j1
 cases hm with
 | mp _ hr =>
 have hc := j2 0 _ rfl
 rw [Nat.add_zero] at hc
 obtain ⟨_, es', m1, m2⟩ := h.ob r _ g.m
 obtain ⟨D, d1, d2, d3⟩ := own_map m1 m2 gk g.nk g.nb g.cl g.sz
 have hBl : E.ι Bm < w.heap.size := by
  unfold World.cell? at hc
  split at hc
  ·rename_i hw; exact (Array.getElem?_eq_some_iff.1 hw).1
  ·cases hc
 refine (sorted_m (E.ι Bm) (E.sh Bm + o) (E.ι r) es'.size D w hBl hc d1 (by rw [d3]; exact g.sz)).mono fun e w' hh => ?_
 obtain ⟨v', rfl, ss, s1, s2, s3, s4, s5⟩ := hh
 have pk : (ss.map (·.k)).Perm (l.map (·.1)) := by
  have := (s1.trans d2).map unk
  rw [List.map_map, List.map_map] at this
  have e : (unk ∘ hkb) = fun x : Hs => x.k := funext unk_kb
  rw [e, toH_k] at this
  exact this
 have es : ss.map (·.k) = srt (l.map (·.1)) := rise_eq (List.pairwise_map.2 (s2.imp fun {a b} h => by rw [lx_swap]; omega)) (srt_rise _) (pk.trans (srt_perm _).symm)
 have el : ss.length = (l.map (·.1)).length := by rw [← pk.length_eq, List.length_map]
 cases hK : l.map (·.1) with
 | nil =>
  rw [hK] at hx el
  cases hx
  have : ss = [] := List.eq_nil_of_length_eq_zero el
  rw [s4.2 this]
  exact ⟨E, _, rfl, .snil _ _, stp_under h s5⟩
 | cons k0 K =>
  rw [keysOut_ne (by rw [hK]; exact fun e => by cases e)] at hx
  injection hx with hv hs
  subst hv
  subst hs
  rcases s3.2 with ⟨_, hz⟩ | ⟨gb, cap, cur, rfl, hbase, hgb, r1, r2, r3, r4⟩
  ·rw [hz, hK] at el; cases el
  have hn : (l.map (·.1)).length ≤ 4398046511104 := by rw [List.length_map]; exact g.sz
  refine ⟨E.push gb 0 cur.size, _, rfl, ?_, ?_⟩
  ·have := VR.slM (E := E.push gb 0 cur.size) E.nx 0 (l.map (·.1)).length (least (l.map (·.1)).length 32) cap (Nat.lt_succ_self _) (least_sure _ _) (by rw [capOf_least _ (by omega)]; rw [← el]; exact r1) (by rw [esOf_least _ (by omega), En.push_sh, En.push_sz, r3]; omega)
   rw [En.push_ι, En.push_sh] at this
   rw [h.nx, el]; exact this
  ·refine stp_fresh h hbase rfl g.gr trivial s5 ⟨cur, _, _, by rw [En.push_ι]; exact hgb, by rw [En.push_sz], .inl rfl, ?_⟩
   rw [En.push_sh]
   intro j x hj
   have e1 : (srt (l.map (·.1))).flatMap (·.map nB) = hcs ss := by rw [← es, hcs_ch, List.flatMap_map]; rfl
   rw [e1, ← r4, List.getElem?_take] at hj
   split at hj
   ·refine ⟨x, by rw [Nat.zero_add, ← Array.getElem?_toList]; exact hj, ?_⟩
    have : x ∈ hcs ss := by
     rw [← r4]
     exact List.mem_of_getElem? (i := j) (by rw [List.getElem?_take, if_pos (by assumption)]; exact hj)
    unfold hcs at this
    obtain ⟨m, hm1, hm2⟩ := List.mem_flatten.1 this
    obtain ⟨q, _, rfl⟩ := List.mem_map.1 hm1
    obtain ⟨n, _, rfl⟩ := List.mem_map.1 hm2
    exact .int _ _
   ·cases hj
open Go Go.Ev Go.Sy
set_option maxRecDepth 1000000
noncomputable def keysK (g : FuncId → Option (List Value → St → Rv)) (f : FuncId) : Option (List Value → St → Rv) := cond (Nat.beq f 44) (some keysH) (g f)
theorem keysK_ok {N : Nat} {k : FuncId → Option (List Value → St → Rv)} (hk : HookOk N Tryz.prog k) : HookOk N Tryz.prog (keysK k) := by
 intro f g hf args args' s s' v E w h ha hx
 unfold keysK at hf
 cases h2 : Nat.beq f 44 with
 | false => rw [h2] at hf; exact hk hf h ha hx
 | true =>
  rw [h2] at hf
  cases hf
  obtain rfl := Nat.eq_of_beq_eq_true h2
  exact keysH_ok h ha hx
end Go.Proofs.YtnbdpcpgckfeeaaGreatDoor
namespace Go.Sy
open Go Go.Ev
def Stm(s:St)(r:Nat)(h:List Nat)(b:Nat):Prop:= ∃l c v,s.hp.get r=some (.map (ents l) c)∧(h,v,b)∈l
theorem Stm.kp{C:Nat→Prop}{s s':St}{r b:Nat}{h:List Nat}(h1:Stm s r h b)(w:Wf s)(k:Kp C s s')(hr:¬C r):Stm s' r h b:=
 let ⟨l,c,v,a,d⟩:=h1;⟨l,c,v,k.kp w r _ a hr,d⟩
theorem ents_inj:∀{l l':List (List Nat×Value×Nat)},ents l=ents l'→l=l':=fun{l l'} h=>by
 have e:∀x:List Nat×Value×Nat,∀y:List Nat×Value×Nat,(⟨hsh x.1,x.2.1,x.2.2⟩:MapEntry)=⟨hsh y.1,y.2.1,y.2.2⟩→x=y:=fun⟨a,b,c⟩ ⟨a',b',c'⟩ h=>by
  injection h with h1 h2 h3
  have h1:(Value.agg ⟨a.map nB⟩)= .agg ⟨a'.map nB⟩:=h1
  injection h1 with h1
  injection h1 with h1
  have:=(List.map_inj_right (fun x y e=>by injection e with _ e;injection e)).1 h1
  cases this;cases h2;cases h3;rfl
 exact(List.map_inj_right (f:=fun x:List Nat×Value×Nat=>(⟨hsh x.1,x.2.1,x.2.2⟩:MapEntry)) (fun x y h=>e x y h)).1 h
section
variable{X:Fx}{env:Env}{s:St}
theorem Xv.ent{t t0 n0 key e elt r:Nat}{z0:Option (List Value)}{x y:Operand}{h:List Nat}{M:MpE}{z:Value}(ht:tk X.B.T t=some ⟨t0,n0,.mp key elt,z0⟩)(H:HT X.P key e)(hz:zeroOf X.P elt=some z)(hp:plain 5 z=true)
  (hx:ev env x=some (.map (some r))) (hy:ev env y=some (hsh h)) (hl:h.length=32) (hb:∀y∈h,y<256) (hm:Mp s r M):
  ∃s' b,Xv X (.mapEntry t x y) env s (.tuple ⟨[(mget h M).getD z,nI b]⟩) s'∧Mp s' r (mput h ((mget h M).getD z) M)∧Stm s' r h b∧s'.nx=s.nx∧Kp (fun c=>c=r) s s':=by
 obtain⟨l,c,h1,rfl,h3,h4⟩:=hm
 have hu:X.P.underlying t=some (.map key elt):=X.B.un ht
 have base:∀tm,Fits env tm→exec X.P (.mapEntry t x y) tm s=xMapEntry X.P t (.map (some r)) (hsh h) s:=fun tm hf=>by
  show xMapEntry X.P t (opd tm x) (opd tm y) s=_
  rw [ev_opd hf hx,ev_opd hf hy]
 obtain⟨hp',nx,gr⟩:=s
 rw [fnd_get]
 cases hf:fnd h l with
 |none=>
  refine⟨.mk (hp'.set (.map (ents l++[⟨hsh h,z,c⟩]) (c+1)) r) nx gr,c,fun tm hft=>?_,⟨l++[(h,z,c)],c+1,?_,?_,?_,h4.add hf hb⟩,⟨l++[(h,z,c)],c+1,z,?_,by simp⟩,rfl,Kp.map h1⟩
  ·rw [base tm hft]
   unfold xMapEntry
   simp only[hu,show hp'.get r=_ from h1,fndK H hl h3,hf,hz,hp,cond_true]
   rw [fN_eq,setO_ok]
   show okEnt z c _=_
   unfold okEnt
   simp only
   rw [fN_eq];rfl
  ·show (hp'.set _ r).get r=_
   rw [get_set',if_pos rfl];simp[ents]
  ·rw [Option.bind_none,Option.getD_none,(fnd_none (v:=z) hf).1];simp
  ·intro y hy
   rcases List.mem_append.1 hy with a|a
   ·exact h3 y a
   ·simp at a;subst a;exact hl
  ·show (hp'.set _ r).get r=_
   rw [get_set',if_pos rfl];simp[ents]
 |some j=>
  obtain⟨q1,u,b,q2⟩:=fnd_lt hf
  obtain⟨p1,p2⟩:=fnd_put (v:=u) hf
  have e1:setV (hsh h) u j (ents l)=(ents l).modify j fun e=>⟨hsh h,e.val,e.born⟩:=by
   unfold setV
   refine List.ext_getElem? fun k=>?_
   rw [List.getElem?_modify,List.getElem?_modify]
   by_cases g:j=k
   ·subst g;unfold ents;rw [List.getElem?_map,q2];simp
   ·simp[g]
  have e2:ents l=ents (l.modify j fun x=>(h,u,x.2.2)):=by
   refine congrArg ents (List.ext_getElem? fun k=>?_)
   rw [List.getElem?_modify]
   by_cases g:j=k
   ·subst g;rw [q2];simp
   ·simp[g]
  have e3:=ents_inj e2
  refine⟨.mk (hp'.set (.map ((ents l).modify j fun e=>⟨hsh h,e.val,e.born⟩) c) r) nx gr,b,fun tm hft=>?_,⟨l,c,?_,?_,h3,h4⟩,⟨l,c,u,?_,List.mem_of_getElem? q2⟩,rfl,Kp.map h1⟩
  ·rw [base tm hft]
   have st:staysK X.P (hsh h) j (ents l)=some (hsh h):=by
    have:(ents l)[j]? =some ⟨hsh h,u,b⟩:=by unfold ents;rw [List.getElem?_map,q2];rfl
    unfold staysK
    rw [this]
    simp only[Instr.keyThatStays,bits_h,if_true]
    show cond (plain 5 (hsh h)) _ _=_
    rw [plain_h];rfl
   have en:(ents l)[j]? =some ⟨hsh h,u,b⟩:=by unfold ents;rw [List.getElem?_map,q2];rfl
   unfold xMapEntry
   simp only[hu,show hp'.get r=_ from h1,fndK H hl h3,hf,st]
   unfold entAt
   simp only[en]
   rw [setO_ok]
   unfold okEnt
   simp only
   rw [fN_eq]
   simp only[Option.bind_some,q2,Option.map_some,Option.getD_some]
  ·show (hp'.set _ r).get r=_
   rw [get_set',if_pos rfl,←e1,p1,←e2]
  ·simp only[Option.bind_some,q2,Option.map_some,Option.getD_some]
   rw [←p2,←e3]
  ·show (hp'.set _ r).get r=_
   rw [get_set',if_pos rfl,←e1,p1,←e2]
theorem nodup_at{l:List (List Nat×Value×Nat)}{i j:Nat}{x y:List Nat×Value×Nat}(h:(l.map (·.2.2)).Nodup)(hi:l[i]? =some x)(hj:l[j]? =some y)(e:x.2.2=y.2.2):i=j:=by
 obtain⟨i1,i2⟩:=List.getElem?_eq_some_iff.1 hi
 obtain⟨j1,j2⟩:=List.getElem?_eq_some_iff.1 hj
 have:=List.pairwise_iff_getElem.1 h
 have q:∀a b:Nat,∀(ha:a<l.length) (hb:b<l.length),a<b→(l[a]).2.2≠(l[b]).2.2:=fun a b ha hb g=>by
  have:=this a b (by simpa using ha) (by simpa using hb) g
  simpa using this
 rcases Nat.lt_trichotomy i j with g|g|g
 ·exact absurd (by rw [i2,j2,e]) (q i j i1 j1 g)
 ·exact g
 ·exact absurd (by rw [i2,j2,e]) (q j i j1 i1 g)
theorem fnd_mem{h:List Nat}{v:Value}{b:Nat}:∀{l:List (List Nat×Value×Nat)},(l.map (·.1)).Nodup→(h,v,b)∈l→∃j,fnd h l=some j∧l[j]? =some (h,v,b)
 |x::l,hn,hm=>by
  rw [List.map_cons,List.nodup_cons]at hn
  unfold fnd
  rcases List.mem_cons.1 hm with rfl|hm
  ·exact⟨0,by rw [if_pos rfl],rfl⟩
  ·have:¬h=x.1:=fun e=>hn.1 (by rw [←e];exact List.mem_map.2 ⟨_,hm,rfl⟩)
   obtain⟨j,j1,j2⟩:=fnd_mem hn.2 hm
   exact⟨j+1,by rw [if_neg this,j1];rfl,by simpa using j2⟩
theorem Xv.ens{t:TypeId}{r b:Nat}{m x y:Operand}{h:List Nat}{M:MpE}{v:Value}(hm':ev env m=some (.map (some r)))(hx:ev env x=some (nI b))(hy:ev env y=some v)(hl:h.length=32)(hm:Mp s r M)(hs:Stm s r h b):
  ∃s',Xv X (.entryStore t m x y) env s undef s'∧Mp s' r (mput h v M)∧s'.nx=s.nx∧Kp (fun c=>c=r) s s':=by
 obtain⟨l,c,h1,rfl,h3,h4⟩:=hm
 obtain⟨l',c',u,g1,g2⟩:=hs
 rw [h1]at g1
 injection g1 with g1
 injection g1 with g1 g3
 have:=ents_inj g1
 subst this
 obtain⟨j,j1,j2⟩:=fnd_mem h4.nk g2
 obtain⟨p1,p2⟩:=fnd_put (v:=v) j1
 have base:∀tm,Fits env tm→exec X.P (.entryStore t m x y) tm s=xEntryStore (.map (some r)) (nI b) v s:=fun tm hf=>by
  show xEntryStore (opd tm m) (opd tm x) (opd tm y) s=_
  rw [ev_opd hf hm',ev_opd hf hx,ev_opd hf hy]
 obtain⟨hp',nx,gr⟩:=s
 refine⟨.mk (hp'.set (.map (setV (hsh h) v j (ents l)) c) r) nx gr,fun tm hft=>?_,⟨l.modify j fun x=>(h,v,x.2.2),c,?_,p2,?_,h4.mod j2⟩,rfl,Kp.map h1⟩
 ·rw [base tm hft]
  have fi:(ents l).findIdx? (fun e=>Nat.beq e.born b)=some j:=by
   rw [List.findIdx?_eq_some_iff_getElem]
   refine⟨by unfold ents;rw [List.length_map];exact(List.getElem?_eq_some_iff.1 j2).1,?_,fun i hi=>?_⟩
   ·obtain⟨k1,k2⟩:=List.getElem?_eq_some_iff.1 j2
    simp only[ents,List.getElem_map,k2]
    exact Nat.beq_refl b
   ·simp only[ents,List.getElem_map]
    intro e
    have hil:i<l.length:=Nat.lt_trans hi (List.getElem?_eq_some_iff.1 j2).1
    have:=nodup_at h4.nb (List.getElem?_eq_getElem hil) j2 (Nat.eq_of_beq_eq_true (by simpa using e))
    omega
  have en:(ents l).modify j (fun e=>⟨e.key,v,e.born⟩)=setV (hsh h) v j (ents l):=by
   unfold setV
   refine List.ext_getElem? fun k=>?_
   rw [List.getElem?_modify,List.getElem?_modify]
   by_cases g:j=k
   ·subst g;unfold ents;rw [List.getElem?_map,j2];simp
   ·simp[g]
  show xEntryStore (.map (some r)) (.int .i64 (.ofNat b)) v _=_
  unfold xEntryStore
  simp only[show hp'.get r=_ from h1,fi,en]
  rw [setO_ok];rfl
 ·show (hp'.set _ r).get r=_
  rw [get_set',if_pos rfl,p1]
 ·intro y hy
  obtain⟨i,hi,rfl⟩:=List.getElem_of_mem hy
  rw [List.getElem_modify]
  split
  ·exact hl
  ·exact h3 _ (List.getElem_mem _)
theorem Xv.delM{x y:Operand}{t u n0 t0 key e elt r:Nat}{z:Option (List Value)}{h:List Nat}{M:MpE}(ht:tk X.B.T t=some ⟨t0,n0,.mp key elt,z⟩)(H:HT X.P key e)(hx:ev env x=some (.map (some r)))(hy:ev env y=some (hsh h))(hl:h.length=32)(hm:Mp s r M):
  ∃s',Xv X (.call ⟨.builtin .delete, #[x,y], #[t,u]⟩) env s undef s'∧Mp s' r (mdel h M)∧s'.nx=s.nx∧Kp (fun c=>c=r) s s':=by
 obtain⟨l,c,h1,rfl,h3,h4⟩:=hm
 have hu:X.P.underlying t=some (.map key elt):=X.B.un ht
 have base:∀tm,Fits env tm→exec X.P (.call ⟨.builtin .delete, #[x,y], #[t,u]⟩) tm s=xDelete X.P [t,u] [.map (some r),hsh h] s:=fun tm hft=>by
  show xDelete X.P [t,u] (opds tm [x,y]) s=_
  rw [evs_opds hft (xs:=[x,y]) (vs:=[.map (some r),hsh h]) (by unfold evs evs evs;rw [hx,hy])]
 obtain⟨hp',nx,gr⟩:=s
 cases hf:fnd h l with
 |none=>
  refine⟨.mk (hp'.set (.map (ents l) c) r) nx gr,fun tm hft=>?_,⟨l,c,?_,((fnd_none (v:=.nilFunc) hf).2).symm▸rfl,h3,h4⟩,rfl,Kp.map h1⟩
  ·rw [base tm hft]
   unfold xDelete headT
   simp only[hu,show hp'.get r=_ from h1,fndK H hl h3,hf]
   unfold erased
   rw [setO_ok];rfl
  ·show (hp'.set _ r).get r=_
   rw [get_set',if_pos rfl]
 |some j=>
  obtain⟨p1,p2⟩:=fnd_del hf
  refine⟨.mk (hp'.set (.map ((ents l).eraseIdx j) c) r) nx gr,fun tm hft=>?_,⟨l.eraseIdx j,c,?_,p2,fun y hy=>h3 y (List.mem_of_mem_eraseIdx hy),h4.del⟩,rfl,Kp.map h1⟩
  ·rw [base tm hft]
   unfold xDelete headT
   simp only[hu,show hp'.get r=_ from h1,fndK H hl h3,hf]
   unfold erased
   simp only
   rw [setO_ok];rfl
  ·show (hp'.set _ r).get r=_
   rw [get_set',if_pos rfl,p1]
theorem Xv.clr{x:Operand}{t n0 t0 key elt r:Nat}{z:Option (List Value)}{M:MpE}(ht:tk X.B.T t=some ⟨t0,n0,.mp key elt,z⟩)(hx:ev env x=some (.map (some r)))(hm:Mp s r M):
  ∃s',Xv X (.call ⟨.builtin .clear, #[x], #[t]⟩) env s undef s'∧Mp s' r []∧s'.nx=s.nx∧Kp (fun c=>c=r) s s':=by
 obtain⟨l,c,h1,rfl,h3,h4⟩:=hm
 have hu:X.P.underlying t=some (.map key elt):=X.B.un ht
 obtain⟨hp',nx,gr⟩:=s
 refine⟨.mk (hp'.set (.map [] c) r) nx gr,fun tm hft=>?_,⟨[],c,?_,rfl,(fun _ h=>by cases h),⟨(fun _ h=>by cases h),.nil,.nil,(fun _ h=>by cases h)⟩⟩,rfl,Kp.map h1⟩
 ·show xClear X.P [t] (opds tm [x]) _=_
  rw [evs_opds hft (xs:=[x]) (vs:=[.map (some r)]) (by unfold evs;rw [hx];rfl)]
  unfold xClear headT
  simp only[hu,show hp'.get r=_ from h1]
  rw [setO_ok];rfl
 ·show (hp'.set _ r).get r=_
  rw [get_set',if_pos rfl];rfl
end
section
variable{X:Fx}{env:Env}{df:List Deferred}{s:St}{Q:Post}{all os:List Oper}{d:Option Nat}{ty:TypeId}{pos:String}{af:Array Edge}{g:Option (Nat×Bool)}
theorem Wd.ent{i m:Nat}{L:List Sp}{past:Past}{t t0 n0 key e elt r:Nat}{z0:Option (List Value)}{x y:Operand}{h:List Nat}{M:MpE}{z:Value}(hg:wantsE all env g=some true)(hd:dOk X d=true)(ht:tk X.B.T t=some ⟨t0,n0,.mp key elt,z0⟩)(H:HT X.P key e)(hz:zeroOf X.P elt=some z)(hp:plain 5 z=true)
  (hx:ev env x=some (.map (some r))) (hy:ev env y=some (hsh h)) (hl:h.length=32) (hb:∀y∈h,y<256) (hm:Mp s r M)
  (K:∀s' b,Mp s' r (mput h ((mget h M).getD z) M)→Stm s' r h b→s'.nx=s.nx→Kp (fun c=>c=r) s s'→Wd X all L ((some i,s')::past) (up d (.tuple ⟨[(mget h M).getD z,nI b]⟩) env) df s' Q):Wd X all (.mk .acts i ⟨d,.mapEntry t x y,ty,pos,af,g⟩ m::L) past env df s Q:=by
 obtain⟨s',b,a,b1,b2,c,e⟩:=Xv.ent (X:=X) ht H hz hp hx hy hl hb hm
 exact Wd.act hg a hd (Nat.le_of_eq c.symm) (K s' b b1 b2 c e)
theorem Wd.ens{i k:Nat}{L:List Sp}{past:Past}{t:TypeId}{r b:Nat}{m x y:Operand}{h:List Nat}{M:MpE}{v:Value}(hg:wantsE all env g=some true)(hd:dOk X d=true)
  (hm':ev env m=some (.map (some r))) (hx:ev env x=some (nI b)) (hy:ev env y=some v) (hl:h.length=32) (hm:Mp s r M) (hs:Stm s r h b)
  (K:∀s',Mp s' r (mput h v M)→s'.nx=s.nx→Kp (fun c=>c=r) s s'→Wd X all L ((some i,s')::past) (up d undef env) df s' Q):Wd X all (.mk .acts i ⟨d,.entryStore t m x y,ty,pos,af,g⟩ k::L) past env df s Q:=by
 obtain⟨s',a,b,c,e⟩:=Xv.ens (X:=X) (t:=t) hm' hx hy hl hm hs
 exact Wd.act hg a hd (Nat.le_of_eq c.symm) (K s' b c e)
end
end Go.Sy
namespace Go.Sy
open Go Go.Ev
theorem wrapZ{z:Int}(h1: -4611686018427387904≤z)(h2:z<4611686018427387904):IntKind.wrap .i64 z=z:=by
 show (if(true&&decide ((z%18446744073709551616:Int)≥9223372036854775808))=true then z%18446744073709551616-18446744073709551616 else z%18446744073709551616)=z
 by_cases h:(z%18446744073709551616:Int)≥9223372036854775808
 ·rw [if_pos (by simpa using h)];omega
 ·rw [if_neg (by simpa using h)];omega
section
variable{X:Fx}{env:Env}{s:St}
theorem Xv.nilC{x:Operand}{b o:Nat}(hx:ev env x=some (.pointer (some ⟨b,o,none⟩))):Xv X (.nilCheck x) env s (.pointer (some ⟨b,o,none⟩)) s:=fun tm hf=>by
 show xNil (opd tm x) s=_
 rw [ev_opd hf hx];rfl
theorem Xv.pEq{t t0 n e:Nat}{z:Option (List Value)}{t':TypeId}{x y:Operand}{q:Option Addr}(ht:tk X.B.T t=some ⟨t0,n,.pt e,z⟩)(hx:ev env x=some (.pointer q))(hy:ev env y=some (.pointer none)):Xv X (.binOp .eql t x y t') env s (.bool (decide (q=none))) s:=fun tm hf=>by
 show xBin X.P .eql t x y (opd tm x) (opd tm y) s=_
 rw [ev_opd hf hx,ev_opd hf hy]
 show eqA X.P .eql t x y (.pointer q) (.pointer none) s=_
 have hu:X.P.underlying t=some (.pointer e):=X.B.un ht
 unfold eqA
 rw [hu]
 cases q<;>rfl
theorem Xv.subZ{t t':TypeId}{x y:Operand}{a b:Nat}(hx:ev env x=some (nI a))(hy:ev env y=some (nI b))(ha:a<2^60)(hb:b<2^60){z:Int}(hz:z=(a:Int)-(b:Int)):Xv X (.binOp .sub t x y t') env s (.int .i64 z) s:=by
 subst hz
 by_cases h:b≤a
 ·have:=Xv.subI (X:=X) (s:=s) (t:=t) (t':=t') hx hy h (by omega)
  rw [show ((a:Int)-(b:Int))=Int.ofNat (a-b)by show _=((a-b:Nat):Int);omega]
  exact this
 intro tm hf
 show xBin X.P .sub t x y (opd tm x) (opd tm y) s=_
 rw [ev_opd hf hx,ev_opd hf hy]
 have e:pureRun X.P (binOp .sub t (nI a) (nI b))=some (.int .i64 ((a:Int)-(b:Int))):=by
  show some (Value.int .i64 (IntKind.wrap .i64 ((a:Int)-(b:Int))))=_
  rw [wrapZ (by omega) (by omega)]
 have e2:arN .sub .i64 a b=none:=by
  show cond (Nat.ble b a) _ (cond (Nat.beq 0 0) none _)=_
  rw [show Nat.ble b a=false by cases hq:Nat.ble b a with|false=>rfl|true=>exact absurd (Nat.le_of_ble_eq_true hq) h];rfl
 show cond (kinds .sub .i64 .i64) (match arN .sub .i64 a b with|some n=>okN .i64 n s|none=>match cmN .sub a b with|some r=>okB r s|none=>ofPure X.P (binOp .sub t (nI a) (nI b)) s) .no=_
 rw [e2]
 show ofPure X.P (binOp .sub t (nI a) (nI b)) s=_
 unfold ofPure
 rw [e]
 show fI ((a:Int)-(b:Int)) (fun n=>Re.ok (.val (.int .i64 n)) s)=_
 rw [fI_eq]
theorem Xv.mkF{f:FuncId}{x y:Array Operand}{vs ws:List Value}(hok:fnOk (.func f)=true)(hx:evs env x.toList=some vs)(hy:evs env y.toList=some ws):Xv X (.makeFunc (.func f) x y) env s (.func (.func f) ⟨vs⟩ ⟨ws⟩) s:=fun tm hf=>by
 show cond (fnOk (.func f)) (Re.ok (.val (.func (.func f) ⟨opds tm x.toList⟩ ⟨opds tm y.toList⟩)) s) Re.no=_
 rw [evs_opds hf hx,evs_opds hf hy,hok];rfl
end
theorem Xv.buildA{X:Fx}{env:Env}{s:St}{t t0 n0 n e t1 size:Nat}{z cs:List Value}{ke:Sh}{z1:Option (List Value)}{ps:Array (Nat×Operand)}(ht:tk X.B.T t=some ⟨t0,n0,.ar n e,some z⟩)(he:tk X.B.T e=some ⟨t1,size,ke,z1⟩)(hp0:fillN (fun i=>some (Nat.mul i size,size)) env ps.toList z=some cs):Xv X (.build t ps) env s (.agg ⟨cs⟩) s:=fun tm hf=>by
 have hp:=fillN_eq hp0
 obtain⟨h1,_,_,_⟩:=X.B.zr ht
 show xBuild X.P t ps.toList tm s=_
 unfold xBuild
 simp only[show zeroCs X.P t=some z from h1,show X.P.underlying t=_ from X.B.un ht,show sizeOfT X.P e=_ from X.B.sz he]
 rw [fillE_ok (fun _ _ h=>h) hf hp];rfl
end Go.Sy
