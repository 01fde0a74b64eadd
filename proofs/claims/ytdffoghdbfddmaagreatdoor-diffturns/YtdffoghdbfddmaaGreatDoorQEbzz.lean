import Derived.Test.YtdffoghdbfddmaaGreatDoorW1zz
import Derived.Test.YtdffoghdbfddmaaGreatDoorQRRotzz
/-
  The evaluator over any input: stepping.
-/
namespace Go.Sy
open Go Go.Ev
def Im (A B : Prop) : Prop := A → B
theorem Im.l {A B C : Prop} (f : B → C) (k : Im A B) : Im A C := fun a => f (k a)
theorem Im.r {A : Prop} : Im A A := id
theorem eqV_int {k : IntKind} {n : Int} : eqV 5 (.int k n) (.int k n) = true := by
  show (k == k && n == n) = true
  rw [show (n == n) = true from beq_self_eq_true n, Bool.and_true]
  cases k <;> rfl
theorem eqV_bool {b : Bool} : eqV 5 (.bool b) (.bool b) = true := by cases b <;> rfl
theorem eqV_slice {q : Option Addr} {n c : Nat} : eqV 5 (.slice q n c) (.slice q n c) = true := by
  show (q == q && Nat.beq n n && Nat.beq c c) = true
  rw [Nat.beq_refl, Nat.beq_refl, beq_self_eq_true]; rfl
theorem eqV_ptr {q : Option Addr} : eqV 5 (.pointer q) (.pointer q) = true := by
  show (q == q) = true
  exact beq_self_eq_true q
/-- As far as it goes by itself. -/
theorem go {G G' : Prop} (h' : G') (h : Im G' G := by
    (repeat (first
      | apply Im.l (Wo.val (by exact rfl) (Xv.move (by exact rfl)) (by exact rfl))
      | apply Im.l (Wo.val (by exact rfl) (Xv.assign (by exact rfl)) (by exact rfl))
      | apply Im.l (Wo.val (by exact rfl) (Xv.lenS (by exact rfl) (by exact rfl)) (by exact rfl))
      | apply Im.l (Wo.val (by exact rfl) (Xv.lt (by exact rfl) (by exact rfl)) (by exact rfl))
      | apply Im.l (Wo.val (by exact rfl) (Xv.le (by exact rfl) (by exact rfl)) (by exact rfl))
      | apply Im.l (Wo.val (by exact rfl) (Xv.gt (by exact rfl) (by exact rfl)) (by exact rfl))
      | apply Im.l (Wo.val (by exact rfl) (Xv.ge (by exact rfl) (by exact rfl)) (by exact rfl))
      | apply Im.l (Wo.val (by exact rfl) (Xv.eq (by exact rfl) (by exact rfl)) (by exact rfl))
      | apply Im.l (Wo.val (by exact rfl) (Xv.ne (by exact rfl) (by exact rfl)) (by exact rfl))
      | apply Im.l (Wo.val (by exact rfl) (Xv.addI (by exact rfl) (by exact rfl) (by omega)) (by exact rfl))
      | apply Im.l (Wo.val (by exact rfl) (Xv.subI (by exact rfl) (by exact rfl) (by omega) (by omega)) (by exact rfl))
      | apply Im.l (Wo.val (by exact rfl) (Xv.minI (by exact rfl) (by exact rfl)) (by exact rfl))
      | apply Im.l (Wo.val (by exact rfl) (Xv.not (by exact rfl)) (by exact rfl))
      | apply Im.l (Wo.val (by exact rfl) (Xv.pick (by exact rfl) (by exact rfl) (by exact rfl)) (by exact rfl))
      | apply Im.l (Wd.val (by exact rfl) (Xv.move (by exact rfl)) (by exact rfl) (Nat.le_refl _))
      | apply Im.l (Wd.val (by exact rfl) (Xv.assign (by exact rfl)) (by exact rfl) (Nat.le_refl _))
      | apply Im.l (Wd.val (by exact rfl) (Xv.lenS (by exact rfl) (by exact rfl)) (by exact rfl) (Nat.le_refl _))
      | apply Im.l (Wd.val (by exact rfl) (Xv.lt (by exact rfl) (by exact rfl)) (by exact rfl) (Nat.le_refl _))
      | apply Im.l (Wd.val (by exact rfl) (Xv.eq (by exact rfl) (by exact rfl)) (by exact rfl) (Nat.le_refl _))
      | apply Im.l (Wd.val (by exact rfl) (Xv.ne (by exact rfl) (by exact rfl)) (by exact rfl) (Nat.le_refl _))
      | apply Im.l (Wo.val (by exact rfl) (Xv.iaB (by exact rfl) (by exact rfl) (by exact rfl) (by exact rfl) (by assumption) (by omega) (by omega)) (by exact rfl))
      | apply Im.l (Wo.val (by exact rfl) (Xv.ld (by exact rfl) (by exact rfl) (by exact rfl) (by exact Bs.ld (by assumption) (by omega))) (by exact rfl))
      | apply Im.l (Wd.val (by exact rfl) (Xv.iaB (by exact rfl) (by exact rfl) (by exact rfl) (by exact rfl) (by assumption) (by omega) (by omega)) (by exact rfl) (Nat.le_refl _))
      | apply Im.l (Wd.read (by exact rfl) (Xv.ld (by exact rfl) (by exact rfl) (by exact rfl) (by exact Bs.ld (by assumption) (by omega))) (by exact rfl) eqV_int (by exact ⟨Xv.ld rfl rfl rfl (Bs.ld (by assumption) (by omega)), trivial⟩))
      | apply Im.l rnd.r
      | apply Im.l rnd.x
      | apply Im.l W.seq
      | apply Im.l W.reg
      | apply Im.l Wo.nil
      | apply Im.l Wd.nil
      | apply Im.l andThen.n
      | apply Im.l andThen.x
      | apply Im.l andThen.r
      | apply Im.l W.block
      | apply Im.l W.skip
      | apply Im.l W.exit
      | apply Im.l W.ret
      | apply Im.l blk.n
      | apply Im.l blk.r
      | apply Im.l blk.x
      | apply Im.l (blk.y (by exact rfl))))
    exact Im.r) : G := h h'
end Go.Sy
/-
  The evaluator over any input: memory. A block's colour tells which list it is of: what is written to one colour leaves the others as they are.
-/
namespace Go.Sy
open Go Go.Ev
def colr (b : Nat) (o : Ob) : Nat := match o with
  | .row _ g => grpOf g b
  | _ => b
structure Wf (s : St) : Prop where
  lt : ∀ b o, s.hp.get b = some o → b < s.nx ∧ colr b o < s.nx
  mem : ∀ g ms m o, s.gr.get g = some ms → m ∈ ms → s.hp.get m = some o → o = .dead ∨ ∃ cs, o = .row cs g
  zero : ∀ b cs, s.hp.get b = some (.row cs 0) → s.gr.get b = none
  tag : ∀ b cs g, s.hp.get b = some (.row cs g) → g ≠ 0 → ∃ ms, s.gr.get g = some ms
  pos : ∀ b cs g, s.hp.get b = some (.row cs g) → 0 < b
  glt : ∀ g ms, s.gr.get g = some ms → 0 < g ∧ g < s.nx
  mlt : ∀ g ms m, s.gr.get g = some ms → m ∈ ms → m < s.nx
  one : 0 < s.nx
/-- What keeps all but some colours. -/
structure Kp (C : Nat → Prop) (s s' : St) : Prop where
  le : s.nx ≤ s'.nx
  wf : Wf s → Wf s'
  kp : Wf s → ∀ b o, s.hp.get b = some o → ¬ C (colr b o) → s'.hp.get b = some o
theorem Kp.refl {C : Nat → Prop} {s : St} : Kp C s s := ⟨Nat.le_refl _, id, fun _ _ _ h _ => h⟩
theorem Kp.trans {C : Nat → Prop} {s s1 s2 : St} (h : Kp C s s1) (k : Kp C s1 s2) : Kp C s s2 :=
  ⟨Nat.le_trans h.le k.le, fun w => k.wf (h.wf w), fun w b o hb hc => k.kp (h.wf w) b o (h.kp w b o hb hc) hc⟩
theorem Kp.mono {C D : Nat → Prop} {s s' : St} (h : Kp C s s') (k : ∀ c, C c → D c) : Kp D s s' := ⟨h.le, h.wf, fun w b o hb hd => h.kp w b o hb fun hc => hd (k _ hc)⟩
/-- Nothing that was is changed. -/
abbrev Kn (s s' : St) : Prop := Kp (fun _ => False) s s'
/-- What is changed came behind. -/
theorem Kp.new {N : Nat} {s s1 s2 : St} (h : Kn s s1) (k : Kp (fun c => N ≤ c) s1 s2) (hN : s.nx ≤ N) : Kn s s2 :=
  ⟨Nat.le_trans h.le k.le, fun w => k.wf (h.wf w), fun w b o hb _ => k.kp (h.wf w) b o (h.kp w b o hb id) fun hc => by have := (w.lt b o hb).2; omega⟩
theorem grpOf_zero {b : Nat} : grpOf 0 b = b := rfl
theorem grpOf_pos {g b : Nat} (h : g ≠ 0) : grpOf g b = g := by
  unfold grpOf
  cases e : Nat.beq g 0 with
  | true => exact absurd (Nat.eq_of_beq_eq_true e) h
  | false => rfl
theorem setO_ok (hp : Tr Ob) (nx : Nat) (gr : Tr (List Nat)) (b : Nat) (o : Ob) : setO hp nx gr b o = some (.mk (hp.set o b) nx gr) := by
  unfold setO
  have hn : ∀ t : Tr Ob, t.get b ≠ none → Tr.casesOn (motive := fun _ => Option St) t none (fun v a b c d => some (.mk (.node v a b c d) nx gr)) = some (.mk t nx gr) := fun t ht => by
    cases t with
    | nil => exact absurd Tr.get_nil ht
    | node => rfl
  exact hn _ (by rw [Tr.get_set _ _ _ (Nat.lt_succ_self _), if_pos rfl]; exact Option.some_ne_none _)
theorem newO_ok {β : Type} (s : St) (o : Ob) (k : Nat → St → Option β) : newO s o k = k s.nx (.mk (s.hp.set o s.nx) (s.nx + 1) s.gr) := by
  obtain ⟨hp, nx, gr⟩ := s
  show cond (Nat.blt nx (Nat.succ nx)) (Tr.casesOn (motive := fun _ => Option β) (hp.set o nx) none fun v a b c d => fN (Nat.succ nx) fun n => k nx (.mk (.node v a b c d) n gr)) none = _
  rw [show Nat.blt nx (Nat.succ nx) = true from Nat.ble_eq_true_of_le (Nat.le_refl _)]
  have hn : ∀ t : Tr Ob, t.get nx ≠ none → Tr.casesOn (motive := fun _ => Option β) t none (fun v a b c d => fN (Nat.succ nx) fun n => k nx (.mk (.node v a b c d) n gr)) = k nx (.mk t (nx + 1) gr) := fun t ht => by
    cases t with
    | nil => exact absurd Tr.get_nil ht
    | node => exact fN_eq _ _
  exact hn _ (by rw [Tr.get_set _ _ _ (Nat.lt_succ_self _), if_pos rfl]; exact Option.some_ne_none _)
theorem get_set' (o : Ob) (hp : Tr Ob) (b m : Nat) : (hp.set o b).get m = if m = b then some o else hp.get m := Tr.get_set _ _ _ (Nat.lt_succ_self _) _
/-- A new block. -/
theorem Kn.new {s : St} {o : Ob} (h : ∀ cs g, o = .row cs g → g = 0) : Kn s (.mk (s.hp.set o s.nx) (s.nx + 1) s.gr) := by
  have hg : ∀ m, (St.mk (s.hp.set o s.nx) (s.nx + 1) s.gr).hp.get m = if m = s.nx then some o else s.hp.get m := fun m => get_set' o s.hp s.nx m
  have hc : colr s.nx o = s.nx := by
    unfold colr
    split
    · rename_i cs g; rw [h cs g rfl]; rfl
    · rfl
  refine ⟨Nat.le_succ _, fun w => ⟨fun b o' hb => ?_, fun g ms m o' hgr hm hb => ?_, fun b cs hb => ?_, fun b cs g hb hg0 => ?_, fun b cs g hb => ?_, fun g ms hgr => ⟨(w.glt g ms hgr).1, Nat.lt_succ_of_lt (w.glt g ms hgr).2⟩, fun g ms m hgr hm => Nat.lt_succ_of_lt (w.mlt g ms m hgr hm), Nat.succ_pos _⟩, fun w b o' hb _ => ?_⟩
  · rw [hg] at hb
    show b < s.nx + 1 ∧ _ < s.nx + 1
    split at hb
    · rename_i e; cases hb; subst e; rw [hc]; exact ⟨Nat.lt_succ_self _, Nat.lt_succ_self _⟩
    · have := w.lt b o' hb; omega
  · rw [hg] at hb
    split at hb
    · rename_i e; cases hb; subst e
      exact absurd (w.mlt g ms _ hgr hm) (Nat.lt_irrefl _)
    · exact w.mem g ms m o' hgr hm hb
  · rw [hg] at hb
    split at hb
    · rename_i e; subst e
      cases hq : s.gr.get s.nx with
      | none => exact hq
      | some ms => exact absurd (w.glt _ ms hq).2 (Nat.lt_irrefl _)
    · exact w.zero b cs hb
  · rw [hg] at hb
    split at hb
    · cases hb; exact absurd (h cs g rfl) hg0
    · exact w.tag b cs g hb hg0
  · rw [hg] at hb
    split at hb
    · rename_i e; subst e; exact w.one
    · exact w.pos b cs g hb
  · rw [hg, if_neg fun e => by have := (w.lt b o' hb).1; omega]; exact hb
/-- Some blocks lose something, and keep their colour. -/
structure Tch (S : Nat → Prop) (s s' : St) : Prop where
  nx : s'.nx = s.nx
  gr : s'.gr = s.gr
  kp : ∀ m, ¬ S m → s'.hp.get m = s.hp.get m
  tg : ∀ m, s'.hp.get m = s.hp.get m ∨ (∃ cs g, s.hp.get m = some (.row cs g) ∧ (s'.hp.get m = some .dead ∨ ∃ cs', s'.hp.get m = some (.row cs' g)))
theorem Tch.refl {S : Nat → Prop} {s : St} : Tch S s s := ⟨rfl, rfl, fun _ _ => rfl, fun _ => .inl rfl⟩
theorem Tch.mono {S S' : Nat → Prop} {s s' : St} (h : Tch S s s') (k : ∀ m, S m → S' m) : Tch S' s s' := ⟨h.nx, h.gr, fun m hm => h.kp m fun a => hm (k m a), h.tg⟩
theorem Tch.trans {S : Nat → Prop} {s s1 s2 : St} (h : Tch S s s1) (k : Tch S s1 s2) : Tch S s s2 := by
  refine ⟨k.nx.trans h.nx, k.gr.trans h.gr, fun m hm => (k.kp m hm).trans (h.kp m hm), fun m => ?_⟩
  rcases h.tg m with a | ⟨cs, g, a, b⟩
  · rw [← a]; exact k.tg m
  · refine .inr ⟨cs, g, a, ?_⟩
    rcases k.tg m with c | ⟨cs1, g1, c, d⟩
    · rw [c]; exact b
    · rcases b with b | ⟨cs', b⟩
      · rw [b] at c; cases c
      · rw [b] at c; cases c; exact d
theorem tch_set {s : St} {m : Nat} {cs : List Value} {g : Nat} {o : Ob} (h : s.hp.get m = some (.row cs g)) (ho : o = .dead ∨ ∃ cs', o = .row cs' g) : Tch (fun k => k = m) s (.mk (s.hp.set o m) s.nx s.gr) := by
  refine ⟨rfl, rfl, fun k hk => ?_, fun k => ?_⟩
  · show (s.hp.set o m).get k = _; rw [get_set', if_neg hk]
  · by_cases e : k = m
    · subst e
      refine .inr ⟨cs, g, h, ?_⟩
      show (s.hp.set o k).get k = _ ∨ ∃ cs', (s.hp.set o k).get k = _
      rw [get_set', if_pos rfl]
      rcases ho with rfl | ⟨cs', rfl⟩
      · exact .inl rfl
      · exact .inr ⟨cs', rfl⟩
    · exact .inl (by show (s.hp.set o m).get k = _; rw [get_set', if_neg e])
theorem spoilL_tch (b n : Nat) : ∀ (ms : List Nat) (s : St), ∃ s', spoilL b n ms s = some s' ∧ Tch (fun m => m ∈ ms ∧ m ≠ b) s s'
  | [], s => ⟨s, rfl, .refl⟩
  | m :: ms, s => by
    obtain ⟨hp, nx, gr⟩ := s
    have step : ∀ s1, Tch (fun k => k ∈ m :: ms ∧ k ≠ b) (.mk hp nx gr) s1 → ∃ s', spoilL b n ms s1 = some s' ∧ Tch (fun k => k ∈ m :: ms ∧ k ≠ b) (.mk hp nx gr) s' := fun s1 h1 => by
      obtain ⟨s', h2, h3⟩ := spoilL_tch b n ms s1
      exact ⟨s', h2, h1.trans (h3.mono fun k ⟨a, c⟩ => ⟨List.mem_cons_of_mem _ a, c⟩)⟩
    show ∃ s', cond (Nat.beq m b) (spoilL b n ms (.mk hp nx gr)) (match hp.get m with
      | some (.row cs g) => match setO hp nx gr m (.row (cutTo n cs) g) with
        | some s => spoilL b n ms s
        | none => none
      | _ => spoilL b n ms (.mk hp nx gr)) = some s' ∧ _
    cases hb : Nat.beq m b with
    | true => exact step _ .refl
    | false =>
      show ∃ s', (match hp.get m with
        | some (.row cs g) => match setO hp nx gr m (.row (cutTo n cs) g) with
          | some s => spoilL b n ms s
          | none => none
        | _ => spoilL b n ms (.mk hp nx gr)) = some s' ∧ _
      split
      · rename_i cs g hm
        rw [setO_ok]
        exact step _ ((tch_set (s := .mk hp nx gr) hm (.inr ⟨_, rfl⟩)).mono fun k e => ⟨e ▸ List.mem_cons_self, e ▸ Nat.ne_of_beq_eq_false hb⟩)
      · exact step _ .refl
theorem kill_tch : ∀ (ks : List Nat) (s : St), (∀ k ∈ ks, ∀ o, s.hp.get k = some o → o = .dead ∨ ∃ cs g, o = .row cs g) → ∃ s', kill ks s = some s' ∧ Tch (fun m => m ∈ ks) s s'
  | [], s, _ => ⟨s, rfl, .refl⟩
  | k :: ks, s, hk => by
    obtain ⟨hp, nx, gr⟩ := s
    have step : ∀ s1, Tch (fun m => m ∈ k :: ks) (.mk hp nx gr) s1 → ∃ s', kill ks s1 = some s' ∧ Tch (fun m => m ∈ k :: ks) (.mk hp nx gr) s' := fun s1 h1 => by
      obtain ⟨s', h2, h3⟩ := kill_tch ks s1 fun m hm o ho => by
        rcases h1.tg m with a | ⟨cs, g, a, b⟩
        · exact hk m (List.mem_cons_of_mem _ hm) o (a ▸ ho)
        · rcases b with b | ⟨cs', b⟩
          · rw [b] at ho; cases ho; exact .inl rfl
          · rw [b] at ho; cases ho; exact .inr ⟨_, _, rfl⟩
      exact ⟨s', h2, h1.trans (h3.mono fun m a => List.mem_cons_of_mem _ a)⟩
    show ∃ s', (match hp.get k with
      | none => kill ks (.mk hp nx gr)
      | some _ => match setO hp nx gr k .dead with
        | some s => kill ks s
        | none => none) = some s' ∧ _
    split
    · exact step _ .refl
    · rename_i o ho
      rw [setO_ok]
      refine step _ ?_
      rcases hk k List.mem_cons_self o ho with rfl | ⟨cs, g, rfl⟩
      · refine ⟨rfl, rfl, fun m hm => ?_, fun m => .inl ?_⟩
        · show (hp.set .dead k).get m = _; rw [get_set']; split
          · rename_i e; subst e; exact ho.symm
          · rfl
        · show (hp.set .dead k).get m = _; rw [get_set']; split
          · rename_i e; subst e; exact ho.symm
          · rfl
      · exact (tch_set (s := .mk hp nx gr) ho (.inl rfl)).mono fun m e => e ▸ List.mem_cons_self
theorem Tch.wf {S : Nat → Prop} {s s' : St} (h : Tch S s s') (w : Wf s) : Wf s' := by
  have hb : ∀ b o, s'.hp.get b = some o → s.hp.get b = some o ∨ (∃ cs g, s.hp.get b = some (.row cs g) ∧ (o = .dead ∨ ∃ cs', o = .row cs' g)) := fun b o ho => by
    rcases h.tg b with a | ⟨cs, g, a, c⟩
    · exact .inl (a ▸ ho)
    · refine .inr ⟨cs, g, a, ?_⟩
      rcases c with c | ⟨cs', c⟩
      · rw [c] at ho; cases ho; exact .inl rfl
      · rw [c] at ho; cases ho; exact .inr ⟨cs', rfl⟩
  refine ⟨fun b o ho => ?_, fun g ms m o hg hm ho => ?_, fun b cs ho => ?_, fun b cs g ho hg => ?_, fun b cs g ho => ?_, fun g ms hg => ?_, fun g ms m hg hm => ?_, by rw [h.nx]; exact w.one⟩
  · rw [h.nx]
    rcases hb b o ho with a | ⟨cs, g, a, rfl | ⟨cs', rfl⟩⟩
    · exact w.lt b o a
    · exact ⟨(w.lt b _ a).1, (w.lt b _ a).1⟩
    · exact ⟨(w.lt b _ a).1, (w.lt b _ a).2⟩
  · rw [h.gr] at hg
    rcases hb m o ho with a | ⟨cs, g', a, rfl | ⟨cs', rfl⟩⟩
    · exact w.mem g ms m o hg hm a
    · exact .inl rfl
    · rcases w.mem g ms m _ hg hm a with e | ⟨cs2, e⟩
      · cases e
      · cases e; exact .inr ⟨cs', rfl⟩
  · rw [h.gr]
    rcases hb b _ ho with a | ⟨cs1, g', a, e | ⟨cs', e⟩⟩
    · exact w.zero b cs a
    · cases e
    · cases e; exact w.zero b cs1 a
  · rw [h.gr]
    rcases hb b _ ho with a | ⟨cs1, g', a, e | ⟨cs', e⟩⟩
    · exact w.tag b cs g a hg
    · cases e
    · cases e; exact w.tag b cs1 _ a hg
  · rcases hb b _ ho with a | ⟨cs1, g', a, e | ⟨cs', e⟩⟩
    · exact w.pos b cs g a
    · cases e
    · exact w.pos b _ _ a
  · rw [h.gr] at hg; rw [h.nx]; exact w.glt g ms hg
  · rw [h.gr] at hg; rw [h.nx]; exact w.mlt g ms m hg hm
/-- What touches one colour alone. -/
theorem Tch.kpc {S : Nat → Prop} {γ : Nat} {s s' : St} (h : Tch S s s') (k : Wf s → ∀ m cs g, s.hp.get m = some (.row cs g) → S m → grpOf g m = γ) : Kp (fun c => c = γ) s s' :=
  ⟨Nat.le_of_eq h.nx.symm, h.wf, fun w b o ho hc => by
    by_cases hs : S b
    · rcases h.tg b with a | ⟨cs, g, a, _⟩
      · rw [a]; exact ho
      · rw [a] at ho; cases ho; exact absurd (k w b cs g a hs) hc
    · rw [h.kp b hs]; exact ho⟩
end Go.Sy
/-
  A block taken into the words, reckoned by the kernel.
-/
namespace Go.Proofs.YtdffoghdbfddmaaGreatDoor.Dg
/-- n is reckoned first -/
def now {α : Type} (n : Nat) (k : Nat → α) : α := match n with | 0 => k 0 | m + 1 => k (m + 1)
theorem now_eq {α : Type} (n : Nat) (k : Nat → α) : now n k = k n := by cases n <;> rfl
/-- a round: the words, the next sixteen of the schedule -/
def eround (k a b c d e f g h w : Nat) {α : Type} (r : Nat → Nat → α) : α :=
  now (((((h + big1 e) % M + pick e f g) % M + k) % M + w) % M) fun x => now ((x + (big0 a + most a b c) % M) % M) fun a' => now ((d + x) % M) fun e' => r a' e'
/-- the rest of the rounds: W holds the next sixteen words -/
def erounds : List Nat → List Nat → Nat → Nat → Nat → Nat → Nat → Nat → Nat → Nat → W8
  | k :: ks, w0 :: w1 :: w2 :: w3 :: w4 :: w5 :: w6 :: w7 :: w8 :: w9 :: w10 :: w11 :: w12 :: w13 :: w14 :: w15 :: r, a, b, c, d, e, f, g, h =>
    now (wnew w14 w9 w1 w0) fun w16 =>
      eround k a b c d e f g h w0 fun a' e' => erounds ks (w1 :: w2 :: w3 :: w4 :: w5 :: w6 :: w7 :: w8 :: w9 :: w10 :: w11 :: w12 :: w13 :: w14 :: w15 :: w16 :: r) a' a b c e' e f g
  | _, _, a, b, c, d, e, f, g, h => ⟨a, b, c, d, e, f, g, h⟩
theorem erounds_step (k : Nat) (ks : List Nat) (w0 w1 w2 w3 w4 w5 w6 w7 w8 w9 w10 w11 w12 w13 w14 w15 : Nat) (s : W8) :
    erounds (k :: ks) [w0, w1, w2, w3, w4, w5, w6, w7, w8, w9, w10, w11, w12, w13, w14, w15] s.a s.b s.c s.d s.e s.f s.g s.h =
      erounds ks [w1, w2, w3, w4, w5, w6, w7, w8, w9, w10, w11, w12, w13, w14, w15, wnew w14 w9 w1 w0] (turn1 s k w0).a (turn1 s k w0).b (turn1 s k w0).c (turn1 s k w0).d (turn1 s k w0).e (turn1 s k w0).f (turn1 s k w0).g (turn1 s k w0).h := by
  rw [erounds, now_eq]
  unfold eround
  rw [now_eq, now_eq, now_eq]
  rfl
/-- the sixteen words from t on -/
def win (B : Nat → Nat) (t : Nat) : List Nat := [sched B t, sched B (t + 1), sched B (t + 2), sched B (t + 3), sched B (t + 4), sched B (t + 5), sched B (t + 6), sched B (t + 7), sched B (t + 8), sched B (t + 9), sched B (t + 10), sched B (t + 11), sched B (t + 12), sched B (t + 13), sched B (t + 14), sched B (t + 15)]
theorem erounds_turns (B : Nat → Nat) (s : W8) : ∀ (ks : List Nat) (t : Nat), (∀ i, i < ks.length → ks[i]? = some (K (t + i))) →
    erounds ks (win B t) (turns K (sched B) s t).a (turns K (sched B) s t).b (turns K (sched B) s t).c (turns K (sched B) s t).d (turns K (sched B) s t).e (turns K (sched B) s t).f (turns K (sched B) s t).g (turns K (sched B) s t).h = turns K (sched B) s (t + ks.length)
  | [], t, _ => by
    rw [erounds]
    · rfl
    · intro k ks' w0 w1 w2 w3 w4 w5 w6 w7 w8 w9 w10 w11 w12 w13 w14 w15 r h
      cases h
  | k :: ks, t, h => by
    have hk : k = K t := by
      have := h 0 (by simp)
      simpa using this
    unfold win
    rw [erounds_step]
    have e : wnew (sched B (t + 14)) (sched B (t + 9)) (sched B (t + 1)) (sched B t) = sched B (t + 16) := by
      rw [sched_high B (t := t + 16) (by omega)]
      rfl
    rw [e, hk]
    have ih := erounds_turns B s ks (t + 1) (fun i hi => by
      have := h (i + 1) (by simp; omega)
      rw [List.getElem?_cons_succ] at this
      rw [this, show t + (i + 1) = t + 1 + i by omega])
    have e2 : t + 1 + ks.length = t + (k :: ks).length := by simp; omega
    rw [e2] at ih
    rw [hk] at ih
    exact ih
def ewords : List Nat → List Nat
  | x0 :: x1 :: x2 :: x3 :: r => now (((x0 <<< 24 ||| x1 <<< 16) ||| x2 <<< 8) ||| x3) fun w => w :: ewords r
  | _ => []
/-- one block of bytes, given as a list -/
def eb (s : W8) (l : List Nat) : W8 :=
  match s with
  | ⟨a, b, c, d, e, f, g, h⟩ =>
    match erounds KL (ewords l) a b c d e f g h with
    | ⟨a', b', c', d', e', f', g', h'⟩ =>
      now ((a + a') % M) fun a => now ((b + b') % M) fun b => now ((c + c') % M) fun c => now ((d + d') % M) fun d => now ((e + e') % M) fun e => now ((f + f') % M) fun f => now ((g + g') % M) fun g => now ((h + h') % M) fun h => ⟨a, b, c, d, e, f, g, h⟩
theorem range64 : List.range 64 = [0, 1, 2, 3, 4, 5, 6, 7, 8, 9, 10, 11, 12, 13, 14, 15, 16, 17, 18, 19, 20, 21, 22, 23, 24, 25, 26, 27, 28, 29, 30, 31, 32, 33, 34, 35, 36, 37, 38, 39, 40, 41, 42, 43, 44, 45, 46, 47, 48, 49, 50, 51, 52, 53, 54, 55, 56, 57, 58, 59, 60, 61, 62, 63] := by decide
theorem ewords_win (B : Nat → Nat) : ewords ((List.range 64).map B) = win B 0 := by
  rw [range64]
  simp only [List.map_cons, List.map_nil, ewords, now_eq]
  unfold win
  rw [sched_low B (show 0 < 16 by decide), sched_low B (show 0 + 1 < 16 by decide), sched_low B (show 0 + 2 < 16 by decide), sched_low B (show 0 + 3 < 16 by decide), sched_low B (show 0 + 4 < 16 by decide), sched_low B (show 0 + 5 < 16 by decide), sched_low B (show 0 + 6 < 16 by decide), sched_low B (show 0 + 7 < 16 by decide), sched_low B (show 0 + 8 < 16 by decide), sched_low B (show 0 + 9 < 16 by decide), sched_low B (show 0 + 10 < 16 by decide), sched_low B (show 0 + 11 < 16 by decide), sched_low B (show 0 + 12 < 16 by decide), sched_low B (show 0 + 13 < 16 by decide), sched_low B (show 0 + 14 < 16 by decide), sched_low B (show 0 + 15 < 16 by decide)]
  rfl
theorem KL_get : ∀ i, i < KL.length → KL[i]? = some (K (0 + i)) := by
  intro i hi
  rw [Nat.zero_add, List.getElem?_eq_getElem hi]
  unfold K
  rw [List.getD_eq_getElem?_getD, List.getElem?_eq_getElem hi]
  rfl
theorem eb_eq (s : W8) (B : Nat → Nat) : eb s ((List.range 64).map B) = fold1 s B := by
  have h := erounds_turns B s KL 0 KL_get
  rw [← ewords_win B] at h
  have h2 : erounds KL (ewords ((List.range 64).map B)) s.a s.b s.c s.d s.e s.f s.g s.h = turns K (sched B) s 64 := h
  unfold eb fold1
  rw [← h2]
  cases s
  simp only [now_eq, plus]
end Go.Proofs.YtdffoghdbfddmaaGreatDoor.Dg
