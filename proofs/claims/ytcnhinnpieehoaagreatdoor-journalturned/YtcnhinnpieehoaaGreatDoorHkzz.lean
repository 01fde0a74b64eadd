import Derived.Test.YtcnhinnpieehoaaGreatDoorW1zz
import Derived.Test.YtcnhinnpieehoaaGreatDoorC1zz
import Derived.Test.YtcnhinnpieehoaaGreatDoorQFoldzz
import Derived.Test.YtcnhinnpieehoaaGreatDoorNReszz
namespace Go.Sy
open Go Go.Ev
def Im (A B : Prop) : Prop := A → B
theorem Im.l {A B C : Prop} (f : B → C) (k : Im A B) : Im A C := fun a => f (k a)
theorem Im.r {A : Prop} : Im A A := id
theorem eqV_int {k : IntKind} {n : Int} : eqV 5 (.int k n) (.int k n) = true := by
 show (k == k && n == n) = true
 rw [show (n == n) = true from beq_self_eq_true n, Bool.and_true]
 cases k <;> rfl
theorem eqV_bool {b : Bool} : eqV 5 (.bool b) (.bool b) = true := by cases b <;> rfl
theorem eqV_slice {q : Option Addr} {n c : Nat} : eqV 5 (.slice q n c) (.slice q n c) = true := by
 show (q == q && Nat.beq n n && Nat.beq c c) = true
 rw [Nat.beq_refl, Nat.beq_refl, beq_self_eq_true]; rfl
theorem eqV_ptr {q : Option Addr} : eqV 5 (.pointer q) (.pointer q) = true := by
 show (q == q) = true
 exact beq_self_eq_true q
theorem go {G G' : Prop} (h' : G') (h : Im G' G := by
  (repeat (first
   | apply Im.l (Wo.val (by exact rfl) (Xv.move (by exact rfl)) (by exact rfl))
   | apply Im.l (Wo.val (by exact rfl) (Xv.assign (by exact rfl)) (by exact rfl))
   | apply Im.l (Wo.val (by exact rfl) (Xv.lenS (by exact rfl) (by exact rfl)) (by exact rfl))
   | apply Im.l (Wo.val (by exact rfl) (Xv.lt (by exact rfl) (by exact rfl)) (by exact rfl))
   | apply Im.l (Wo.val (by exact rfl) (Xv.le (by exact rfl) (by exact rfl)) (by exact rfl))
   | apply Im.l (Wo.val (by exact rfl) (Xv.gt (by exact rfl) (by exact rfl)) (by exact rfl))
   | apply Im.l (Wo.val (by exact rfl) (Xv.ge (by exact rfl) (by exact rfl)) (by exact rfl))
   | apply Im.l (Wo.val (by exact rfl) (Xv.eq (by exact rfl) (by exact rfl)) (by exact rfl))
   | apply Im.l (Wo.val (by exact rfl) (Xv.ne (by exact rfl) (by exact rfl)) (by exact rfl))
   | apply Im.l (Wo.val (by exact rfl) (Xv.addI (by exact rfl) (by exact rfl) (by omega)) (by exact rfl))
   | apply Im.l (Wo.val (by exact rfl) (Xv.subI (by exact rfl) (by exact rfl) (by omega) (by omega)) (by exact rfl))
   | apply Im.l (Wo.val (by exact rfl) (Xv.minI (by exact rfl) (by exact rfl)) (by exact rfl))
   | apply Im.l (Wo.val (by exact rfl) (Xv.not (by exact rfl)) (by exact rfl))
   | apply Im.l (Wo.val (by exact rfl) (Xv.pick (by exact rfl) (by exact rfl) (by exact rfl)) (by exact rfl))
   | apply Im.l (Wd.val (by exact rfl) (Xv.move (by exact rfl)) (by exact rfl) (Nat.le_refl _))
   | apply Im.l (Wd.val (by exact rfl) (Xv.assign (by exact rfl)) (by exact rfl) (Nat.le_refl _))
   | apply Im.l (Wd.val (by exact rfl) (Xv.lenS (by exact rfl) (by exact rfl)) (by exact rfl) (Nat.le_refl _))
   | apply Im.l (Wd.val (by exact rfl) (Xv.lt (by exact rfl) (by exact rfl)) (by exact rfl) (Nat.le_refl _))
   | apply Im.l (Wd.val (by exact rfl) (Xv.eq (by exact rfl) (by exact rfl)) (by exact rfl) (Nat.le_refl _))
   | apply Im.l (Wd.val (by exact rfl) (Xv.ne (by exact rfl) (by exact rfl)) (by exact rfl) (Nat.le_refl _))
   | apply Im.l (Wo.val (by exact rfl) (Xv.iaB (by exact rfl) (by exact rfl) (by exact rfl) (by exact rfl) (by assumption) (by omega) (by omega)) (by exact rfl))
   | apply Im.l (Wo.val (by exact rfl) (Xv.ld (by exact rfl) (by exact rfl) (by exact rfl) (by exact Bs.ld (by assumption) (by omega))) (by exact rfl))
   | apply Im.l (Wd.val (by exact rfl) (Xv.iaB (by exact rfl) (by exact rfl) (by exact rfl) (by exact rfl) (by assumption) (by omega) (by omega)) (by exact rfl) (Nat.le_refl _))
   | apply Im.l (Wd.read (by exact rfl) (Xv.ld (by exact rfl) (by exact rfl) (by exact rfl) (by exact Bs.ld (by assumption) (by omega))) (by exact rfl) eqV_int (by exact ⟨Xv.ld rfl rfl rfl (Bs.ld (by assumption) (by omega)), trivial⟩))
   | apply Im.l rnd.r
   | apply Im.l rnd.x
   | apply Im.l W.seq
   | apply Im.l W.reg
   | apply Im.l Wo.nil
   | apply Im.l Wd.nil
   | apply Im.l andThen.n
   | apply Im.l andThen.x
   | apply Im.l andThen.r
   | apply Im.l W.block
   | apply Im.l W.skip
   | apply Im.l W.exit
   | apply Im.l W.ret
   | apply Im.l blk.n
   | apply Im.l blk.r
   | apply Im.l blk.x
   | apply Im.l (blk.y (by exact rfl))))
  exact Im.r) : G := h h'
end Go.Sy
namespace Go.Sy
open Go Go.Ev
def colr (b : Nat) (o : Ob) : Nat := match o with
 | .row _ g => grpOf g b
 | _ => b
structure Wf (s : St) : Prop where
 lt : ∀ b o, s.hp.get b = some o → b < s.nx ∧ colr b o < s.nx
 mem : ∀ g ms m o, s.gr.get g = some ms → m ∈ ms → s.hp.get m = some o → o = .dead ∨ ∃ cs, o = .row cs g
 zero : ∀ b cs, s.hp.get b = some (.row cs 0) → s.gr.get b = none
 tag : ∀ b cs g, s.hp.get b = some (.row cs g) → g ≠ 0 → ∃ ms, s.gr.get g = some ms
 pos : ∀ b cs g, s.hp.get b = some (.row cs g) → 0 < b
 glt : ∀ g ms, s.gr.get g = some ms → 0 < g ∧ g < s.nx
 mlt : ∀ g ms m, s.gr.get g = some ms → m ∈ ms → m < s.nx
 one : 0 < s.nx
structure Kp (C : Nat → Prop) (s s' : St) : Prop where
 le : s.nx ≤ s'.nx
 wf : Wf s → Wf s'
 kp : Wf s → ∀ b o, s.hp.get b = some o → ¬ C (colr b o) → s'.hp.get b = some o
theorem Kp.refl {C : Nat → Prop} {s : St} : Kp C s s := ⟨Nat.le_refl _, id, fun _ _ _ h _ => h⟩
theorem Kp.trans {C : Nat → Prop} {s s1 s2 : St} (h : Kp C s s1) (k : Kp C s1 s2) : Kp C s s2 :=
 ⟨Nat.le_trans h.le k.le, fun w => k.wf (h.wf w), fun w b o hb hc => k.kp (h.wf w) b o (h.kp w b o hb hc) hc⟩
theorem Kp.mono {C D : Nat → Prop} {s s' : St} (h : Kp C s s') (k : ∀ c, C c → D c) : Kp D s s' := ⟨h.le, h.wf, fun w b o hb hd => h.kp w b o hb fun hc => hd (k _ hc)⟩
abbrev Kn (s s' : St) : Prop := Kp (fun _ => False) s s'
theorem Kp.new {N : Nat} {s s1 s2 : St} (h : Kn s s1) (k : Kp (fun c => N ≤ c) s1 s2) (hN : s.nx ≤ N) : Kn s s2 :=
 ⟨Nat.le_trans h.le k.le, fun w => k.wf (h.wf w), fun w b o hb _ => k.kp (h.wf w) b o (h.kp w b o hb id) fun hc => by have := (w.lt b o hb).2; omega⟩
theorem grpOf_pos {g b : Nat} (h : g ≠ 0) : grpOf g b = g := by
 unfold grpOf
 cases e : Nat.beq g 0 with
 | true => exact absurd (Nat.eq_of_beq_eq_true e) h
 | false => rfl
theorem setO_ok (hp : Tr Ob) (nx : Nat) (gr : Tr (List Nat)) (b : Nat) (o : Ob) : setO hp nx gr b o = some (.mk (hp.set o b) nx gr) := by
 unfold setO
 have hn : ∀ t : Tr Ob, t.get b ≠ none → Tr.casesOn (motive := fun _ => Option St) t none (fun v a b c d => some (.mk (.node v a b c d) nx gr)) = some (.mk t nx gr) := fun t ht => by
  cases t with
  | nil => exact absurd Tr.get_nil ht
  | node => rfl
 exact hn _ (by rw [Tr.get_set _ _ _ (Nat.lt_succ_self _), if_pos rfl]; exact Option.some_ne_none _)
theorem newO_ok {β : Type} (s : St) (o : Ob) (k : Nat → St → Option β) : newO s o k = k s.nx (.mk (s.hp.set o s.nx) (s.nx + 1) s.gr) := by
 obtain ⟨hp, nx, gr⟩ := s
 show cond (Nat.blt nx (Nat.succ nx)) (Tr.casesOn (motive := fun _ => Option β) (hp.set o nx) none fun v a b c d => fN (Nat.succ nx) fun n => k nx (.mk (.node v a b c d) n gr)) none = _
 rw [show Nat.blt nx (Nat.succ nx) = true from Nat.ble_eq_true_of_le (Nat.le_refl _)]
 have hn : ∀ t : Tr Ob, t.get nx ≠ none → Tr.casesOn (motive := fun _ => Option β) t none (fun v a b c d => fN (Nat.succ nx) fun n => k nx (.mk (.node v a b c d) n gr)) = k nx (.mk t (nx + 1) gr) := fun t ht => by
  cases t with
  | nil => exact absurd Tr.get_nil ht
  | node => exact fN_eq _ _
 exact hn _ (by rw [Tr.get_set _ _ _ (Nat.lt_succ_self _), if_pos rfl]; exact Option.some_ne_none _)
theorem get_set' (o : Ob) (hp : Tr Ob) (b m : Nat) : (hp.set o b).get m = if m = b then some o else hp.get m := Tr.get_set _ _ _ (Nat.lt_succ_self _) _
theorem Kn.new {s : St} {o : Ob} (h : ∀ cs g, o = .row cs g → g = 0) : Kn s (.mk (s.hp.set o s.nx) (s.nx + 1) s.gr) := by
 have hg : ∀ m, (St.mk (s.hp.set o s.nx) (s.nx + 1) s.gr).hp.get m = if m = s.nx then some o else s.hp.get m := fun m => get_set' o s.hp s.nx m
 have hc : colr s.nx o = s.nx := by
  unfold colr
  split
  ·rename_i cs g; rw [h cs g rfl]; rfl
  ·rfl
 refine ⟨Nat.le_succ _, fun w => ⟨fun b o' hb => ?_, fun g ms m o' hgr hm hb => ?_, fun b cs hb => ?_, fun b cs g hb hg0 => ?_, fun b cs g hb => ?_, fun g ms hgr => ⟨(w.glt g ms hgr).1, Nat.lt_succ_of_lt (w.glt g ms hgr).2⟩, fun g ms m hgr hm => Nat.lt_succ_of_lt (w.mlt g ms m hgr hm), Nat.succ_pos _⟩, fun w b o' hb _ => ?_⟩
 ·rw [hg] at hb
  show b < s.nx + 1 ∧ _ < s.nx + 1
  split at hb
  ·rename_i e; cases hb; subst e; rw [hc]; exact ⟨Nat.lt_succ_self _, Nat.lt_succ_self _⟩
  ·have := w.lt b o' hb; omega
 ·rw [hg] at hb
  split at hb
  ·rename_i e; cases hb; subst e
   exact absurd (w.mlt g ms _ hgr hm) (Nat.lt_irrefl _)
  ·exact w.mem g ms m o' hgr hm hb
 ·rw [hg] at hb
  split at hb
  ·rename_i e; subst e
   cases hq : s.gr.get s.nx with
   | none => exact hq
   | some ms => exact absurd (w.glt _ ms hq).2 (Nat.lt_irrefl _)
  ·exact w.zero b cs hb
 ·rw [hg] at hb
  split at hb
  ·cases hb; exact absurd (h cs g rfl) hg0
  ·exact w.tag b cs g hb hg0
 ·rw [hg] at hb
  split at hb
  ·rename_i e; subst e; exact w.one
  ·exact w.pos b cs g hb
 ·rw [hg, if_neg fun e => by have := (w.lt b o' hb).1; omega]; exact hb
structure Tch (S : Nat → Prop) (s s' : St) : Prop where
 nx : s'.nx = s.nx
 gr : s'.gr = s.gr
 kp : ∀ m, ¬ S m → s'.hp.get m = s.hp.get m
 tg : ∀ m, s'.hp.get m = s.hp.get m ∨ (∃ cs g, s.hp.get m = some (.row cs g) ∧ (s'.hp.get m = some .dead ∨ ∃ cs', s'.hp.get m = some (.row cs' g)))
theorem Tch.refl {S : Nat → Prop} {s : St} : Tch S s s := ⟨rfl, rfl, fun _ _ => rfl, fun _ => .inl rfl⟩
theorem Tch.mono {S S' : Nat → Prop} {s s' : St} (h : Tch S s s') (k : ∀ m, S m → S' m) : Tch S' s s' := ⟨h.nx, h.gr, fun m hm => h.kp m fun a => hm (k m a), h.tg⟩
theorem Tch.trans {S : Nat → Prop} {s s1 s2 : St} (h : Tch S s s1) (k : Tch S s1 s2) : Tch S s s2 := by
 refine ⟨k.nx.trans h.nx, k.gr.trans h.gr, fun m hm => (k.kp m hm).trans (h.kp m hm), fun m => ?_⟩
 rcases h.tg m with a | ⟨cs, g, a, b⟩
 ·rw [← a]; exact k.tg m
 ·refine .inr ⟨cs, g, a, ?_⟩
  rcases k.tg m with c | ⟨cs1, g1, c, d⟩
  ·rw [c]; exact b
  ·rcases b with b | ⟨cs', b⟩
   ·rw [b] at c; cases c
   ·rw [b] at c; cases c; exact d
theorem tch_set {s : St} {m : Nat} {cs : List Value} {g : Nat} {o : Ob} (h : s.hp.get m = some (.row cs g)) (ho : o = .dead ∨ ∃ cs', o = .row cs' g) : Tch (fun k => k = m) s (.mk (s.hp.set o m) s.nx s.gr) := by
 refine ⟨rfl, rfl, fun k hk => ?_, fun k => ?_⟩
 ·show (s.hp.set o m).get k = _; rw [get_set', if_neg hk]
 ·by_cases e : k = m
  ·subst e
   refine .inr ⟨cs, g, h, ?_⟩
   show (s.hp.set o k).get k = _ ∨ ∃ cs', (s.hp.set o k).get k = _
   rw [get_set', if_pos rfl]
   rcases ho with rfl | ⟨cs', rfl⟩
   ·exact .inl rfl
   ·exact .inr ⟨cs', rfl⟩
  ·exact .inl (by show (s.hp.set o m).get k = _; rw [get_set', if_neg e])
theorem spoilL_tch (b n : Nat) : ∀ (ms : List Nat) (s : St), ∃ s', spoilL b n ms s = some s' ∧ Tch (fun m => m ∈ ms ∧ m ≠ b) s s'
 | [], s => ⟨s, rfl, .refl⟩
 | m :: ms, s => by
  obtain ⟨hp, nx, gr⟩ := s
  have step : ∀ s1, Tch (fun k => k ∈ m :: ms ∧ k ≠ b) (.mk hp nx gr) s1 → ∃ s', spoilL b n ms s1 = some s' ∧ Tch (fun k => k ∈ m :: ms ∧ k ≠ b) (.mk hp nx gr) s' := fun s1 h1 => by
   obtain ⟨s', h2, h3⟩ := spoilL_tch b n ms s1
   exact ⟨s', h2, h1.trans (h3.mono fun k ⟨a, c⟩ => ⟨List.mem_cons_of_mem _ a, c⟩)⟩
  show ∃ s', cond (Nat.beq m b) (spoilL b n ms (.mk hp nx gr)) (match hp.get m with
   | some (.row cs g) => match setO hp nx gr m (.row (cutTo n cs) g) with
    | some s => spoilL b n ms s
    | none => none
   | _ => spoilL b n ms (.mk hp nx gr)) = some s' ∧ _
  cases hb : Nat.beq m b with
  | true => exact step _ .refl
  | false =>
   show ∃ s', (match hp.get m with
    | some (.row cs g) => match setO hp nx gr m (.row (cutTo n cs) g) with
     | some s => spoilL b n ms s
     | none => none
    | _ => spoilL b n ms (.mk hp nx gr)) = some s' ∧ _
   split
   ·rename_i cs g hm
    rw [setO_ok]
    exact step _ ((tch_set (s := .mk hp nx gr) hm (.inr ⟨_, rfl⟩)).mono fun k e => ⟨e ▸ List.mem_cons_self, e ▸ Nat.ne_of_beq_eq_false hb⟩)
   ·exact step _ .refl
theorem kill_tch : ∀ (ks : List Nat) (s : St), (∀ k ∈ ks, ∀ o, s.hp.get k = some o → o = .dead ∨ ∃ cs g, o = .row cs g) → ∃ s', kill ks s = some s' ∧ Tch (fun m => m ∈ ks) s s'
 | [], s, _ => ⟨s, rfl, .refl⟩
 | k :: ks, s, hk => by
  obtain ⟨hp, nx, gr⟩ := s
  have step : ∀ s1, Tch (fun m => m ∈ k :: ks) (.mk hp nx gr) s1 → ∃ s', kill ks s1 = some s' ∧ Tch (fun m => m ∈ k :: ks) (.mk hp nx gr) s' := fun s1 h1 => by
   obtain ⟨s', h2, h3⟩ := kill_tch ks s1 fun m hm o ho => by
    rcases h1.tg m with a | ⟨cs, g, a, b⟩
    ·exact hk m (List.mem_cons_of_mem _ hm) o (a ▸ ho)
    ·rcases b with b | ⟨cs', b⟩
     ·rw [b] at ho; cases ho; exact .inl rfl
     ·rw [b] at ho; cases ho; exact .inr ⟨_, _, rfl⟩
   exact ⟨s', h2, h1.trans (h3.mono fun m a => List.mem_cons_of_mem _ a)⟩
  show ∃ s', (match hp.get k with
   | none => kill ks (.mk hp nx gr)
   | some _ => match setO hp nx gr k .dead with
    | some s => kill ks s
    | none => none) = some s' ∧ _
  split
  ·exact step _ .refl
  ·rename_i o ho
   rw [setO_ok]
   refine step _ ?_
   rcases hk k List.mem_cons_self o ho with rfl | ⟨cs, g, rfl⟩
   ·refine ⟨rfl, rfl, fun m hm => ?_, fun m => .inl ?_⟩
    ·show (hp.set .dead k).get m = _; rw [get_set']; split
     ·rename_i e; subst e; exact ho.symm
     ·rfl
    ·show (hp.set .dead k).get m = _; rw [get_set']; split
     ·rename_i e; subst e; exact ho.symm
     ·rfl
   ·exact (tch_set (s := .mk hp nx gr) ho (.inl rfl)).mono fun m e => e ▸ List.mem_cons_self
theorem Tch.wf {S : Nat → Prop} {s s' : St} (h : Tch S s s') (w : Wf s) : Wf s' := by
 have hb : ∀ b o, s'.hp.get b = some o → s.hp.get b = some o ∨ (∃ cs g, s.hp.get b = some (.row cs g) ∧ (o = .dead ∨ ∃ cs', o = .row cs' g)) := fun b o ho => by
  rcases h.tg b with a | ⟨cs, g, a, c⟩
  ·exact .inl (a ▸ ho)
  ·refine .inr ⟨cs, g, a, ?_⟩
   rcases c with c | ⟨cs', c⟩
   ·rw [c] at ho; cases ho; exact .inl rfl
   ·rw [c] at ho; cases ho; exact .inr ⟨cs', rfl⟩
 refine ⟨fun b o ho => ?_, fun g ms m o hg hm ho => ?_, fun b cs ho => ?_, fun b cs g ho hg => ?_, fun b cs g ho => ?_, fun g ms hg => ?_, fun g ms m hg hm => ?_, by rw [h.nx]; exact w.one⟩
 ·rw [h.nx]
  rcases hb b o ho with a | ⟨cs, g, a, rfl | ⟨cs', rfl⟩⟩
  ·exact w.lt b o a
  ·exact ⟨(w.lt b _ a).1, (w.lt b _ a).1⟩
  ·exact ⟨(w.lt b _ a).1, (w.lt b _ a).2⟩
 ·rw [h.gr] at hg
  rcases hb m o ho with a | ⟨cs, g', a, rfl | ⟨cs', rfl⟩⟩
  ·exact w.mem g ms m o hg hm a
  ·exact .inl rfl
  ·rcases w.mem g ms m _ hg hm a with e | ⟨cs2, e⟩
   ·cases e
   ·cases e; exact .inr ⟨cs', rfl⟩
 ·rw [h.gr]
  rcases hb b _ ho with a | ⟨cs1, g', a, e | ⟨cs', e⟩⟩
  ·exact w.zero b cs a
  ·cases e
  ·cases e; exact w.zero b cs1 a
 ·rw [h.gr]
  rcases hb b _ ho with a | ⟨cs1, g', a, e | ⟨cs', e⟩⟩
  ·exact w.tag b cs g a hg
  ·cases e
  ·cases e; exact w.tag b cs1 _ a hg
 ·rcases hb b _ ho with a | ⟨cs1, g', a, e | ⟨cs', e⟩⟩
  ·exact w.pos b cs g a
  ·cases e
  ·exact w.pos b _ _ a
 ·rw [h.gr] at hg; rw [h.nx]; exact w.glt g ms hg
 ·rw [h.gr] at hg; rw [h.nx]; exact w.mlt g ms m hg hm
theorem Tch.kpc {S : Nat → Prop} {γ : Nat} {s s' : St} (h : Tch S s s') (k : Wf s → ∀ m cs g, s.hp.get m = some (.row cs g) → S m → grpOf g m = γ) : Kp (fun c => c = γ) s s' :=
 ⟨Nat.le_of_eq h.nx.symm, h.wf, fun w b o ho hc => by
  by_cases hs : S b
  ·rcases h.tg b with a | ⟨cs, g, a, _⟩
   ·rw [a]; exact ho
   ·rw [a] at ho; cases ho; exact absurd (k w b cs g a hs) hc
  ·rw [h.kp b hs]; exact ho⟩
end Go.Sy
namespace Go.Ev
open Go Go.RowKit
theorem stp_below {N : Nat} {E : En} {s : St} {w w' : World} (h : Rel N E s w) (b : Below w.heap.size w w') : Stp N E s w E s w' := by
 have hs := b.size
 refine ⟨.refl E, ⟨h.nx, h.lo, h.hi, h.base, Nat.le_trans h.flr hs, fun k o hk => ?_, h.flo, h.dis, h.grp, h.ro⟩, b.os, b.tape, b.output, hs, fun B hB _ => b.block B hB, fun k o hk ho => .inr ⟨k, o, hk, ho, rfl⟩⟩
 obtain ⟨h1, h2⟩ := h.ob k o hk
 refine ⟨h1, ?_⟩
 by_cases e : o = .dead
 ·subst e; trivial
 ·exact h2.keep (.refl E) h1 (b.block _ (h2.lt e))
end Go.Ev
namespace Go.Proofs.YtcnhinnpieehoaaGreatDoor.Dg
open Go Go.Ev Go.RowKit
def nats : List Value → Option (List Nat)
 | [] => some []
 | .int .u32 (.ofNat n) :: l => match nats l with
  | some r => cond (Nat.blt n 4294967296) (some (n :: r)) none
  | none => none
 | _ => none
def bytesN : List Value → Option (List Nat)
 | [] => some []
 | .int .u8 (.ofNat n) :: l => match bytesN l with
  | some r => cond (Nat.blt n 256) (some (n :: r)) none
  | none => none
 | _ => none
theorem nats_some : ∀ {l : List Value} {r : List Nat}, nats l = some r → l = r.map (fun n => .int .u32 (.ofNat n)) ∧ ∀ n ∈ r, n < 4294967296
 | [], r, h => by cases h; exact ⟨rfl, fun n hn => by cases hn⟩
 | v :: l, r, h => by
  unfold nats at h
  split at h
  ·rename_i e; cases e
  ·rename_i n l' e
   cases e
   split at h
   ·rename_i r' hr
    cases hb : Nat.blt n 4294967296 with
    | false => rw [hb] at h; cases h
    | true =>
     rw [hb] at h
     cases h
     obtain ⟨h1, h2⟩ := nats_some hr
     have hn : n < 4294967296 := Nat.le_of_ble_eq_true hb
     exact ⟨by rw [h1]; rfl, fun m hm => (List.mem_cons.1 hm).elim (fun e => by rw [e]; exact hn) (h2 m)⟩
   ·cases h
  ·cases h
theorem bytesN_some : ∀ {l : List Value} {r : List Nat}, bytesN l = some r → l = r.map (fun n => .int .u8 (.ofNat n)) ∧ ∀ n ∈ r, n < 256
 | [], r, h => by cases h; exact ⟨rfl, fun n hn => by cases hn⟩
 | v :: l, r, h => by
  unfold bytesN at h
  split at h
  ·rename_i e; cases e
  ·rename_i n l' e
   cases e
   split at h
   ·rename_i r' hr
    cases hb : Nat.blt n 256 with
    | false => rw [hb] at h; cases h
    | true =>
     rw [hb] at h
     cases h
     obtain ⟨h1, h2⟩ := bytesN_some hr
     have hn : n < 256 := Nat.le_of_ble_eq_true hb
     exact ⟨by rw [h1]; rfl, fun m hm => (List.mem_cons.1 hm).elim (fun e => by rw [e]; exact hn) (h2 m)⟩
   ·cases h
  ·cases h
def KV : List Value := KL.map fun n => .int .u32 (.ofNat n)
def out8 (s : W8) (t : St) : Rv := match s with
 | ⟨a, b, c, d, e, f, g, h⟩ => .ok (.agg ⟨[.int .u32 (.ofNat a), .int .u32 (.ofNat b), .int .u32 (.ofNat c), .int .u32 (.ofNat d), .int .u32 (.ofNat e), .int .u32 (.ofNat f), .int .u32 (.ofNat g), .int .u32 (.ofNat h)]⟩) t
def mixN (ws bs : Option (List Nat)) (ok : Bool) (t : St) : Rv := match ws, bs with
 | some [a, b, c, d, e, f, g, h], some l => cond ok (out8 (eb ⟨a, b, c, d, e, f, g, h⟩ l) t) .no
 | _, _ => .no
def bytesO (o : Option (List Value)) : Option (List Nat) := match o with
 | some l => bytesN l
 | none => none
def sameO (o : Option (List Value)) : Bool := match o with
 | some l => sameL l KV
 | none => false
def mixH (G : Nat) (args : List Value) (t : St) : Rv := match args with
 | [.agg ws, .slice (some ⟨b, off, none⟩) n _] => cond (Nat.beq n 64) (mixN (nats ws.toList) (bytesO (readAt t b off 64)) (sameO (readAt t G 0 64)) t) .no
 | _ => .no
theorem mixH_ok {P : Program} {N G : Nat} (hG : G < 1000) {f : FuncId}
  (hc : ∀ (w : World) (s : W8) (_ : Ok8 s) (a : Option Addr) (b off c : Nat) (B : Nat → Nat) (_ : View w a b off 64 (fun i => (B i : Int))) (_ : ∀ i, B i < 256) (_ : ∀ i, i < 64 → w.cell? ⟨G, i, none⟩ = some (.int .u32 (K i))) (_ : G < w.heap.size),
   Calls P f #[.agg (arr8 s), .slice a 64 c] w fun e w' => e = .returned (.agg (arr8 (fold1 s B))) ∧ Below w.heap.size w w')
  {args args' : List Value} {s s' : St} {v : Value} {E : En} {w : World} (h : Go.Ev.Rel N E s w) (ha : VRs E args args') (hx : mixH G args s = .ok v s') :
  Calls P f ⟨args'⟩ w fun e w' => ∃ E' v', e = .returned v' ∧ VR E' v v' ∧ Stp N E s w E' s' w' := by
 unfold mixH at hx
 split at hx
 case h_2 => cases hx
 rename_i ws b off n c
 cases hn : Nat.beq n 64 with
 | false => rw [hn] at hx; cases hx
 | true =>
 rw [hn] at hx
 have hn' := Nat.eq_of_beq_eq_true hn
 subst hn'
 have hx1 : mixN (nats ws.toList) (bytesO (readAt s b off 64)) (sameO (readAt s G 0 64)) s = .ok v s' := hx
 unfold mixN at hx1
 split at hx1
 case h_2 => cases hx1
 rename_i a8 b8 c8 d8 e8 f8 g8 h8 l hws hbs
 cases hok : sameO (readAt s G 0 64) with
 | false => rw [hok] at hx1; cases hx1
 | true =>
 rw [hok] at hx1
 cases ha with
 | cons _ p _ l' hp hl =>
 obtain ⟨q, rfl, hq⟩ := hl.one_inv
 obtain ⟨hb, c', rfl, _⟩ := hq.sl_inv
 obtain ⟨ws', rfl, hww⟩ := hp.agg_inv
 obtain ⟨n1, n2⟩ := nats_some hws
 have hok8 : Ok8 ⟨a8, b8, c8, d8, e8, f8, g8, h8⟩ := ⟨n2 _ (by simp), n2 _ (by simp), n2 _ (by simp), n2 _ (by simp), n2 _ (by simp), n2 _ (by simp), n2 _ (by simp), n2 _ (by simp)⟩
 have hws' : ws' = ws.toList := by
  refine VRs.plain_eq (p := plain 1) (fun v v' => plain_eq 1 v v') _ _ ?_ hww
  rw [n1]
  rfl
 unfold bytesO at hbs
 split at hbs
 case h_2 => cases hbs
 rename_i cells hcells
 obtain ⟨m1, m2⟩ := bytesN_some hbs
 subst m1
 have hlen : l.length = 64 := by
  have := readAt_len hcells
  rwa [List.length_map] at this
 obtain ⟨r', k1, k2⟩ := readAt_cell P h.obs hcells
 have e1 := k1.ints_eq
 subst e1
 unfold sameO at hok
 split at hok
 case h_2 => cases hok
 rename_i tab htab
 have e2 := sameL_eq hok
 subst e2
 obtain ⟨t', j1, j2⟩ := readAt_cell P h.obs htab
 have e3 : t' = KV := VRs.plain_eq (p := plain 1) (fun v v' => plain_eq 1 v v') _ _ (by kernel_rfl) j1
 subst e3
 obtain ⟨i1, i2⟩ := h.base G hG
 rw [i1, i2] at j2
 have hK : ∀ i, i < 64 → w.cell? ⟨G, i, none⟩ = some (.int .u32 (K i)) := by
  intro i hi
  have := j2 i (.int .u32 (K i)) (by
   unfold KV
   rw [List.getElem?_map, KL_get i hi, Nat.zero_add]
   rfl)
  simpa using this
 have hlt : G < w.heap.size := World.block_lt_of_cell? _ _ (hK 0 (by decide))
 have hV : View w (some ⟨E.ι b, E.sh b + off, none⟩) (E.ι b) (E.sh b + off) 64 (fun i => ((l.getD i 0 : Nat) : Int)) := by
  refine ⟨fun _ => rfl, fun i hi => ?_, fun i hi => ?_, by decide⟩
  ·have hg : l[i]? = some (l.getD i 0) := by
    rw [List.getD_eq_getElem?_getD, List.getElem?_eq_getElem (by omega)]; rfl
   exact k2 i _ (by rw [List.getElem?_map, hg]; rfl)
  ·have : l.getD i 0 < 256 := by
    rw [List.getD_eq_getElem?_getD, List.getElem?_eq_getElem (by omega)]
    exact m2 _ (List.getElem_mem _)
   omega
 have hB : ∀ i, l.getD i 0 < 256 := by
  intro i
  rcases Nat.lt_or_ge i l.length with hi | hi
  ·rw [List.getD_eq_getElem?_getD, List.getElem?_eq_getElem hi]
   exact m2 _ (List.getElem_mem _)
  ·rw [List.getD_eq_getElem?_getD, List.getElem?_eq_none hi]; decide
 have hrange : l = (List.range 64).map fun i => l.getD i 0 := by
  apply List.ext_getElem?
  intro i
  rw [List.getElem?_map]
  rcases Nat.lt_or_ge i 64 with hi | hi
  ·rw [List.getElem?_range hi, List.getElem?_eq_getElem (by omega), Option.map_some, List.getD_eq_getElem?_getD, List.getElem?_eq_getElem (by omega)]; rfl
  ·rw [List.getElem?_eq_none (by omega), List.getElem?_eq_none (by simpa using hi)]; rfl
 have hx2 : out8 (eb ⟨a8, b8, c8, d8, e8, f8, g8, h8⟩ l) s = .ok v s' := hx1
 rw [hrange, eb_eq] at hx2
 have call := hc w ⟨a8, b8, c8, d8, e8, f8, g8, h8⟩ hok8 (some ⟨E.ι b, E.sh b + off, none⟩) (E.ι b) (E.sh b + off) c' (fun i => l.getD i 0) hV hB hK hlt
 rw [show (⟨[.agg ⟨ws'⟩, .slice (some ⟨E.ι b, E.sh b + off, none⟩) 64 c']⟩ : Array Value) = #[.agg (arr8 ⟨a8, b8, c8, d8, e8, f8, g8, h8⟩), .slice (some ⟨E.ι b, E.sh b + off, none⟩) 64 c'] by rw [hws', n1]; rfl]
 refine call.mono fun e w' ⟨he, hbel⟩ => ?_
 refine ⟨E, _, he, ?_, ?_⟩
 ·generalize fold1 ⟨a8, b8, c8, d8, e8, f8, g8, h8⟩ (fun i => l.getD i 0) = z at hx2
  obtain ⟨a, b, c, d, e, f, g, h⟩ := z
  cases hx2
  exact plain_VR E 2 _ rfl
 ·have es : s' = s := by
   generalize fold1 ⟨a8, b8, c8, d8, e8, f8, g8, h8⟩ (fun i => l.getD i 0) = z at hx2
   obtain ⟨a, b, c, d, e, f, g, h⟩ := z
   cases hx2
   rfl
  subst es
  exact stp_below h hbel
def hooks (f : FuncId) : Option (List Value → St → Rv) :=
 cond (Nat.beq f 126) (some (mixH 3)) none
theorem hooks_ok {N : Nat} : HookOk N Tryz.prog hooks := by
 intro f g hf args args' s s' v E w h ha hx
 unfold hooks at hf
 cases h1 : Nat.beq f 126 with
 | true =>
  rw [h1] at hf
  cases hf
  obtain rfl := Nat.eq_of_beq_eq_true h1
  exact mixH_ok (by decide) (fun w s hs a b off c B hv hB hK hw => folded_any w s hs a b off c B hv hB hK hw) h ha hx
 | false =>
  rw [h1] at hf
  cases hf
end Go.Proofs.YtcnhinnpieehoaaGreatDoor.Dg
