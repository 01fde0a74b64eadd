import Derived.Test.YtgglbjnfbfpiiaaGreatDoorE3zz
/-
  The evaluator: writing.
-/
namespace Go.Ev
open Go
theorem CellsR.bound {E : En} {sh : Nat} {cs : List Value} {c : Array Value} (h : CellsR E sh cs c) {n : Nat} (hn : n ≤ cs.length) (h0 : 0 < n) : sh + n ≤ c.size := by
  have : (cs[n - 1]?).isSome = true := by rw [List.getElem?_eq_getElem (by omega)]; rfl
  obtain ⟨v, hv⟩ := Option.isSome_iff_exists.1 this
  obtain ⟨v', h1, _⟩ := h (n - 1) v hv
  rcases Nat.lt_or_ge (sh + (n - 1)) c.size with k | k
  · omega
  · rw [Array.getElem?_eq_none k] at h1; cases h1
theorem CellsR.take {E : En} {sh : Nat} {cs : List Value} {c : Array Value} (h : CellsR E sh cs c) (n : Nat) : CellsR E sh (cs.take n) c := by
  intro i v hv
  rw [List.getElem?_take] at hv
  split at hv
  · exact h i v hv
  · cases hv
/-- Cells ahead of a place are not touched by what is laid from there on. -/
theorem CellsR.ahead {E : En} {sh : Nat} {cs : List Value} {c : Array Value} (h : CellsR E sh cs c) {o : Nat} {vs : List Value} (ho : sh + o + vs.length ≤ c.size) (hn : cs.length ≤ o) : CellsR E sh cs (lay c (sh + o) vs) := by
  intro i v hv
  obtain ⟨v', h1, h2⟩ := h i v hv
  have : i < cs.length := by
    rcases Nat.lt_or_ge i cs.length with k | k
    · exact k
    · rw [List.getElem?_eq_none k] at hv; cases hv
  exact ⟨v', by rw [lay_get _ _ _ _ ho, if_neg (by omega)]; exact h1, h2⟩
theorem CellsR.laid {E : En} {sh : Nat} {cs : List Value} {c : Array Value} (h : CellsR E sh cs c) {o : Nat} {vs vs' : List Value} (hv : VRs E vs vs') (ho : o + vs.length ≤ cs.length) (ho' : sh + o + vs'.length ≤ c.size) :
    CellsR E sh (cs.take o ++ (vs ++ cs.drop (o + vs.length))) (lay c (sh + o) vs') := by
  have hl := hv.length
  intro i v hi
  rw [lay_get _ _ _ _ ho']
  rw [List.getElem?_append] at hi
  simp only [List.length_take, Nat.min_eq_left (show o ≤ cs.length by omega)] at hi
  split at hi
  · rename_i k
    rw [List.getElem?_take, if_pos k] at hi
    rw [if_neg (by omega)]
    exact h i v hi
  · rename_i k
    rw [List.getElem?_append] at hi
    split at hi
    · rename_i k2
      obtain ⟨v', h1, h2⟩ := hv.get hi
      exact ⟨v', by rw [if_pos (by omega), show sh + i - (sh + o) = i - o by omega]; exact h1, h2⟩
    · rename_i k2
      rw [List.getElem?_drop] at hi
      rw [if_neg (by omega)]
      exact h i v (by rw [show i = o + vs.length + (i - o - vs.length) by omega]; exact hi)
theorem Rel.lt {N : Nat} {E : En} {s : St} {w : World} (h : Rel N E s w) : ∀ m o, s.hp.get m = some o → m < m + 1 := fun m o hm => by
  have := (h.ob m o hm).1
  have := h.hi
  omega
/-- A row is written from a cell on, and the others of its group are cut there. -/
theorem stp_write {N : Nat} {E : En} {s s' : St} {w : World} (P : Program) (h : Rel N E s w) {b off : Nat} {vs vs' : List Value} (hs : writeAt s b off vs = some s') (hv : VRs E vs vs') :
    ∃ w', (storeCells ⟨E.ι b, E.sh b + off, none⟩ vs').run P w = .ok () w' ∧ Stp N E s w E s' w' := by
  cases hv with
  | nil => cases hs; exact ⟨w, by simp [storeCells], .refl h⟩
  | cons v v' vs vs' hv1 hv2 =>
    have hv : VRs E (v :: vs) (v' :: vs') := .cons _ _ _ _ hv1 hv2
    obtain ⟨hp, nx, gr⟩ := s
    have hs1 : writeOb hp nx gr b off (v :: vs) (hp.get b) = some s' := hs
    unfold writeOb at hs1
    split at hs1
    case h_2 => cases hs1
    rename_i cs g hb
    split at hs1
    case h_1 => cases hs1
    rename_i cs' hsp
    obtain ⟨hl, rfl, hone⟩ := splice_some hsp
    obtain ⟨hbn, hob⟩ := h.ob b _ hb
    obtain ⟨c, ct, fr, hc, hsz, hth, hcr⟩ := hob
    have hlen := hv.length
    have hbd : E.sh b + off + (v' :: vs').length ≤ c.size := by
      have := hcr.bound (n := off + (v :: vs).length) hl (by simp only [List.length_cons]; omega)
      omega
    have hone' : ∀ u ∈ v' :: vs', one u = true := by
      intro u hu
      obtain ⟨i, hi⟩ := List.getElem?_of_mem hu
      have hil : i < (v :: vs).length := by
        rw [hlen]
        rcases Nat.lt_or_ge i (v' :: vs').length with k | k
        · exact k
        · rw [List.getElem?_eq_none k] at hi; cases hi
      obtain ⟨u', h1, h2⟩ := hv.get (List.getElem?_eq_getElem hil)
      rw [hi] at h1; cases h1
      exact h2.one (hone _ (List.getElem_mem hil))
    have hrun := run_storeCells_lay P (E.ι b) ct fr (E.sh b + off) (v' :: vs') 0 c w hc (by omega) hth hone'
    simp only [Nat.add_zero] at hrun
    have hιb : E.ι b < w.heap.size := (h.ob b _ hb).2.lt (fun e => by cases e)
    refine ⟨_, hrun, ?_⟩
    have hh : ∀ B, (World.row w (E.ι b) (.cells (lay c (E.sh b + off) (v' :: vs')) ct fr)).heap[B]? = if B = E.ι b then some (.cells (lay c (E.sh b + off) (v' :: vs')) ct fr) else w.heap[B]? := fun B => row_heap _ _ _ _ hιb
    have hhs : (World.row w (E.ι b) (.cells (lay c (E.sh b + off) (v' :: vs')) ct fr)).heap.size = w.heap.size := by simp [World.row]
    -- the state
    have main : ∀ ms, Cut b off ms (.mk (hp.set (.row (cs.take off ++ ((v :: vs) ++ cs.drop (off + (v :: vs).length))) g) b) nx gr) s' → (g ≠ 0 → gr.get g = some ms) →
        Stp N E (.mk hp nx gr) w E s' (World.row w (E.ι b) (.cells (lay c (E.sh b + off) (v' :: vs')) ct fr)) := by
      intro ms C hms
      have gets : ∀ k, (hp.set (.row (cs.take off ++ ((v :: vs) ++ cs.drop (off + (v :: vs).length))) g) b).get k = if k = b then some (.row (cs.take off ++ ((v :: vs) ++ cs.drop (off + (v :: vs).length))) g) else hp.get k :=
        fun k => Tr.get_set _ _ _ (by have := h.hi; omega) k
      -- what stands there now
      have now : ∀ m o', s'.hp.get m = some o' → (m = b ∧ o' = .row (cs.take off ++ ((v :: vs) ++ cs.drop (off + (v :: vs).length))) g) ∨
          (m ≠ b ∧ ∃ o, hp.get m = some o ∧ o'.grp = o.grp ∧ (o'.rw ↔ o.rw) ∧ (o = .dead → o' = .dead) ∧ (o' = o ∨ ∃ cs1 g1, o = .row cs1 g1 ∧ o' = .row (cs1.take off) g1)) := by
        intro m o' hm
        by_cases e : m = b
        · subst e
          rw [C.same] at hm
          rw [show (St.mk (hp.set (.row (cs.take off ++ ((v :: vs) ++ cs.drop (off + (v :: vs).length))) g) m) nx gr).hp = hp.set (.row (cs.take off ++ ((v :: vs) ++ cs.drop (off + (v :: vs).length))) g) m from rfl, gets, if_pos rfl] at hm
          cases hm
          exact .inl ⟨rfl, rfl⟩
        · refine .inr ⟨e, ?_⟩
          rcases C.back m o' hm with h1 | ⟨_, cs1, g1, h1, rfl⟩
          · rw [show (St.mk (hp.set (.row (cs.take off ++ ((v :: vs) ++ cs.drop (off + (v :: vs).length))) g) b) nx gr).hp = hp.set (.row (cs.take off ++ ((v :: vs) ++ cs.drop (off + (v :: vs).length))) g) b from rfl, gets, if_neg e] at h1
            exact ⟨o', h1, rfl, Iff.rfl, id, .inl rfl⟩
          · rw [show (St.mk (hp.set (.row (cs.take off ++ ((v :: vs) ++ cs.drop (off + (v :: vs).length))) g) b) nx gr).hp = hp.set (.row (cs.take off ++ ((v :: vs) ++ cs.drop (off + (v :: vs).length))) g) b from rfl, gets, if_neg e] at h1
            exact ⟨_, h1, rfl, Iff.rfl, (fun e => by cases e), .inr ⟨cs1, g1, rfl, rfl⟩⟩
      have was : ∀ m o', s'.hp.get m = some o' → ∃ o, hp.get m = some o ∧ o'.grp = o.grp ∧ (o'.rw ↔ o.rw) ∧ (o = .dead → o' = .dead) := by
        intro m o' hm
        rcases now m o' hm with ⟨rfl, rfl⟩ | ⟨_, o, h1, h2, h3, h4, _⟩
        · exact ⟨_, hb, rfl, Iff.rfl, fun e => by cases e⟩
        · exact ⟨o, h1, h2, h3, h4⟩
      refine ⟨.refl E, ⟨?_, h.lo, h.hi, h.base, by rw [hhs]; exact h.flr, fun m o' hm => ?_, fun m o' hm hr => ?_, fun m o m' o' hm hm' hr hd hne he => ?_, fun m o hm hg => ?_, fun m o hm hd hr => ?_⟩, rfl, rfl, rfl, by rw [hhs]; exact Nat.le_refl _, fun B hB hn => ?_, fun m o' hm hr => ?_⟩
      · rw [C.nx]; exact h.nx
      · rcases now m o' hm with ⟨rfl, rfl⟩ | ⟨hmb, o, ho, hgr, _, _, hoo⟩
        · exact ⟨hbn, _, ct, fr, by rw [hh, if_pos rfl], by rw [lay_size]; exact hsz, by rw [lay_size]; exact hth, hcr.laid hv hl hbd⟩
        · obtain ⟨h1, h2⟩ := h.ob m o ho
          refine ⟨h1, ?_⟩
          by_cases e : E.ι m = E.ι b
          · by_cases hdd : o = .dead
            · subst hdd
              rcases hoo with rfl | ⟨_, _, e3, _⟩
              · trivial
              · cases e3
            obtain ⟨hg0, hg1, hsh⟩ := h.dis b _ m o hb ho trivial hdd (fun e => hmb e.symm) e.symm
            obtain ⟨ms', hms1, hms2⟩ := h.grp m o ho (by rw [hg1]; exact hg0)
            have hgg : gr.get g = some ms' := by rw [hg1] at hms1; exact hms1
            have : ms = ms' := Option.some.inj ((hms hg0).symm.trans hgg)
            subst this
            cases o with
            | row cs1 g1 =>
              have hrow : ∃ cs2, o' = .row cs2 g1 ∧ (∀ (i : Nat) (u : Value), cs2[i]? = some u → cs1[i]? = some u) := by
                rcases hoo with rfl | ⟨cs3, g3, e3, rfl⟩
                · exact ⟨cs1, rfl, fun _ _ h => h⟩
                · cases e3
                  refine ⟨_, rfl, fun i u hu => ?_⟩
                  rw [List.getElem?_take] at hu
                  split at hu
                  · exact hu
                  · cases hu
              obtain ⟨cs2, rfl, hpre⟩ := hrow
              have hcut := C.cut m hms2 hmb cs2 g1 hm
              obtain ⟨c1, t1, fr1, k1, k2, k3, k4⟩ := h2
              rw [e, hc] at k1
              cases k1
              refine ⟨_, ct, fr, by rw [hh, e, if_pos rfl], by rw [lay_size]; exact k2, by rw [lay_size]; exact hth, ?_⟩
              have k5 : CellsR E (E.sh m) cs2 c := fun i u hu => k4 i u (hpre i u hu)
              have := CellsR.ahead (vs := v' :: vs') (o := off) k5 (by rw [hsh]; exact hbd) hcut
              rw [hsh] at this ⊢
              exact this
            | ro cs1 => exact absurd hg1.symm hg0
            | map es1 c1 => exact absurd hg1.symm hg0
            | loop l1 n1 t1 => exact absurd hg1.symm hg0
            | dfr c1 => exact absurd hg1.symm hg0
            | iter => exact absurd hg1.symm hg0
            | dead => exact absurd rfl hdd
          · have hkeep := h2.keep (.refl E) h1 (show (World.row w (E.ι b) (.cells (lay c (E.sh b + off) (v' :: vs')) ct fr)).heap[E.ι m]? = w.heap[E.ι m]? by rw [hh, if_neg e])
            rcases hoo with rfl | ⟨cs3, g3, rfl, rfl⟩
            · exact hkeep
            · obtain ⟨c1, t1, fr1, k1, k2, k3, k4⟩ := hkeep
              exact ⟨c1, t1, fr1, k1, k2, k3, k4.take off⟩
      · obtain ⟨o, h1, _, h3, _⟩ := was m o' hm
        exact h.flo m o h1 (h3.1 hr)
      · obtain ⟨q, h1, h2, h3, _⟩ := was m o hm
        obtain ⟨q', h1', h2', h3', h4'⟩ := was m' o' hm'
        rw [h2, h2']
        exact h.dis m q m' q' h1 h1' (h3.1 hr) (fun e => hd (h4' e)) hne he
      · obtain ⟨q, h1, h2, h3, _⟩ := was m o hm
        rw [h2] at hg ⊢
        rw [C.gr]
        exact h.grp m q h1 hg
      · obtain ⟨q, h1, h2, h3, h4⟩ := was m o hm
        exact h.ro m q h1 (fun e => hd (h4 e)) (fun e => hr (h3.2 e))
      · rw [hh, if_neg (fun e => hn b _ hb trivial e.symm)]
      · obtain ⟨q, h1, h2, h3, _⟩ := was m o' hm
        exact .inr ⟨m, q, h1, h3.1 hr, rfl⟩
    unfold wrote at hs1
    split at hs1
    case h_1 => cases hs1
    rename_i s1 he1
    have e1 := setO_some he1
    subst e1
    cases hg : Nat.beq g 0 with
    | true =>
      rw [hg] at hs1
      have hs2 : some (St.mk (hp.set (.row (cs.take off ++ ((v :: vs) ++ cs.drop (off + (v :: vs).length))) g) b) nx gr) = some s' := hs1
      cases hs2
      exact main [] (Cut.refl _ _ _) (fun hne => absurd (Nat.eq_of_beq_eq_true hg) hne)
    | false =>
      rw [hg] at hs1
      have hs2 : spoil (St.mk (hp.set (.row (cs.take off ++ ((v :: vs) ++ cs.drop (off + (v :: vs).length))) g) b) nx gr) g b off = some s' := hs1
      have hg0 : g ≠ 0 := fun e => by subst e; cases hg
      obtain ⟨ms, C, hms⟩ := spoil_cut (fun m o hm => by
        rw [show (St.mk (hp.set (.row (cs.take off ++ ((v :: vs) ++ cs.drop (off + (v :: vs).length))) g) b) nx gr).hp = hp.set (.row (cs.take off ++ ((v :: vs) ++ cs.drop (off + (v :: vs).length))) g) b from rfl, Tr.get_set _ _ _ (by have := h.hi; omega)] at hm
        split at hm
        · rename_i e; subst e; have := h.hi; omega
        · exact h.lt m o hm) hs2
      refine main ms C (fun _ => ?_)
      rcases hms with ⟨h1, _⟩ | h1
      · obtain ⟨ms', h2, _⟩ := h.grp b _ hb hg0
        have h3 : gr.get g = some ms' := h2
        have h4 : gr.get g = none := h1
        rw [h3] at h4; cases h4
      · exact h1
end Go.Ev
