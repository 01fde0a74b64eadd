import Derived.Test.YtgglbjnfbfpiiaaGreatDoorE2zz
/-
  The evaluator: cells written.
-/
namespace Go.Ev
open Go
def World.row (w : World) (g : Nat) (o : Obj) : World := { w with heap := w.heap.setIfInBounds g o }
theorem row_heap (w : World) (g : Nat) (o : Obj) (B : Nat) (hg : g < w.heap.size) : (World.row w g o).heap[B]? = if B = g then some o else w.heap[B]? := by
  simp only [World.row, Array.getElem?_setIfInBounds]
  by_cases h : g = B
  · subst h; simp [hg]
  · rw [if_neg h, if_neg (fun e => h e.symm)]
/-- One cell stored. -/
theorem run_store1 (P : Program) (w : World) (g i : Nat) (c : Array Value) (ty : TypeId) (fr : Nat × Nat) (v : Value) (hw : w.heap[g]? = some (.cells c ty fr)) (hi : i < c.size)
    (hf : ¬ (fr.1 ≤ i ∧ i < fr.2)) (hv : one v = true) : (store ⟨g, i, none⟩ v).run P w = .ok () (World.row w g (.cells (c.setIfInBounds i v) ty fr)) := by
  have hg : g < w.heap.size := by
    rcases Nat.lt_or_ge g w.heap.size with h | h
    · exact h
    · rw [Array.getElem?_eq_none h] at hw; cases hw
  have hc : w.cell? ⟨g, i, none⟩ = some c[i] := by simp [World.cell?, hw, hi]
  have hfz : w.frozen? ⟨g, i, none⟩ = false := by
    simp only [World.frozen?, hw, Bool.and_eq_false_iff, decide_eq_false_iff_not]
    rcases Nat.lt_or_ge i fr.1 with h | h
    · exact .inl (by omega)
    · exact .inr (fun h' => hf ⟨h, h'⟩)
  have hset : w.setCell ⟨g, i, none⟩ v = World.row w g (.cells (c.setIfInBounds i v) ty fr) := by
    unfold World.setCell World.row
    congr 1
    apply Array.ext_getElem?
    intro k
    simp only [Array.getElem?_modify, Array.getElem?_setIfInBounds]
    by_cases e : g = k
    · subst e
      have e2 : w.heap[g] = .cells c ty fr := by rw [Array.getElem?_eq_getElem hg] at hw; exact Option.some.inj hw
      simp [hg, e2]
    · simp [e]
  have : ∀ v, one v = true → (Sem.store .plain ⟨g, i, none⟩ v (.pure ())).run P w = .ok () (w.setCell ⟨g, i, none⟩ v) := by
    intro v hv
    cases v <;> first | (cases hv; done) | (simp only [Sem.run, hc, hfz]; rfl) 
  rw [← hset]
  exact this v hv
theorem add_eq (g o i : Nat) : (⟨g, o, none⟩ : Addr).add i = ⟨g, o + i, none⟩ := by
  unfold Addr.add
  split
  · subst_vars; rfl
  · rfl
/-- The cells of an array with others laid over. -/
def lay (c : Array Value) (o : Nat) : List Value → Array Value
  | [] => c
  | v :: vs => lay (c.setIfInBounds o v) (o + 1) vs
theorem lay_size : ∀ (vs : List Value) (c : Array Value) (o : Nat), (lay c o vs).size = c.size
  | [], _, _ => rfl
  | v :: vs, c, o => by rw [lay, lay_size vs]; simp
theorem lay_get : ∀ (vs : List Value) (c : Array Value) (o i : Nat), o + vs.length ≤ c.size → (lay c o vs)[i]? = if o ≤ i ∧ i < o + vs.length then vs[i - o]? else c[i]?
  | [], c, o, i, _ => by rw [lay, if_neg (by simp)]
  | v :: vs, c, o, i, h => by
    simp only [List.length_cons] at h
    rw [lay, lay_get vs _ (o + 1) i (by simp; omega), Array.getElem?_setIfInBounds]
    simp only [List.length_cons]
    rcases Nat.lt_trichotomy i o with e | e | e
    · rw [if_neg (by omega), if_neg (by omega), if_neg (by omega)]
    · subst e
      rw [if_neg (by omega), if_pos rfl, if_pos (by omega), if_pos (by omega)]
      simp
    · by_cases k : i < o + 1 + vs.length
      · rw [if_pos (by omega), if_pos (by omega)]
        have : i - o = (i - (o + 1)) + 1 := by omega
        rw [this]; simp
      · rw [if_neg (by omega), if_neg (by omega), if_neg (by omega)]
theorem run_storeCells_lay (P : Program) (g : Nat) (ty : TypeId) (fr : Nat × Nat) (o : Nat) : ∀ (vs : List Value) (i : Nat) (c : Array Value) (w : World), w.heap[g]? = some (.cells c ty fr) → o + i + vs.length ≤ c.size →
    Thaw fr c.size → (∀ v ∈ vs, one v = true) → (storeCells ⟨g, o, none⟩ vs i).run P w = .ok () (match vs with | [] => w | _ => World.row w g (.cells (lay c (o + i) vs) ty fr))
  | [], i, c, w, _, _, _, _ => by simp [storeCells]
  | v :: vs, i, c, w, hw, hi, ht, hv => by
    simp only [List.length_cons] at hi
    have hg : g < w.heap.size := by
      rcases Nat.lt_or_ge g w.heap.size with h | h
      · exact h
      · rw [Array.getElem?_eq_none h] at hw; cases hw
    have h1 := run_store1 P w g (o + i) c ty fr v hw (by omega) (ht.not _ (by omega)) (hv v (by simp))
    have h2 := run_storeCells_lay P g ty fr o vs (i + 1) (c.setIfInBounds (o + i) v) (World.row w g (.cells (c.setIfInBounds (o + i) v) ty fr)) (by rw [row_heap _ _ _ _ hg, if_pos rfl]) (by simp; omega) (by simpa using ht) (fun u hu => hv u (by simp [hu]))
    simp only [storeCells, Sem.run_bind, add_eq, h1, Result.andThen_ok, h2]
    cases vs with
    | nil => rfl
    | cons u us =>
      simp only [lay, World.row, Array.setIfInBounds_setIfInBounds, Nat.add_assoc]
/-! ### The others of a group -/
theorem cutTo_eq (n : Nat) (l : List Value) : cutTo n l = l.take n := by
  unfold cutTo
  cases h : takeO n l with
  | some ys => exact (takeO_some.1 h).2
  | none =>
    rcases Nat.le_total n l.length with k | k
    · rw [(takeO_some.2 ⟨k, rfl⟩)] at h; cases h
    · exact (List.take_of_length_le k).symm
/-- Some rows are cut behind n cells; all else is as it was. -/
structure Cut (b n : Nat) (ms : List Nat) (s s' : St) : Prop where
  nx : s'.nx = s.nx
  gr : s'.gr = s.gr
  back : ∀ m o', s'.hp.get m = some o' → s.hp.get m = some o' ∨ m ≠ b ∧ ∃ cs g, s.hp.get m = some (.row cs g) ∧ o' = .row (cs.take n) g
  same : s'.hp.get b = s.hp.get b
  cut : ∀ m, m ∈ ms → m ≠ b → ∀ cs g, s'.hp.get m = some (.row cs g) → cs.length ≤ n
  all : ∀ m, (s'.hp.get m).isSome = (s.hp.get m).isSome
theorem spoilL_cut (b n : Nat) : ∀ (ms : List Nat) (s s' : St), (∀ m o, s.hp.get m = some o → m < m + 1) → spoilL b n ms s = some s' → Cut b n ms s s' := by
  intro ms
  induction ms with
  | nil => intro s s' _ h; cases h; exact ⟨rfl, rfl, fun m o h => .inl h, rfl, fun m hm => by simp at hm, fun _ => rfl⟩
  | cons m ms ih =>
    intro s s' hlt h
    obtain ⟨hp, nx, gr⟩ := s
    have h' : cond (Nat.beq m b) (spoilL b n ms (.mk hp nx gr)) (match hp.get m with
      | some (.row cs g) => match setO hp nx gr m (.row (cutTo n cs) g) with
        | some s => spoilL b n ms s
        | none => none
      | _ => spoilL b n ms (.mk hp nx gr)) = some s' := h
    have skip : (∀ cs g, hp.get m = some (.row cs g) → m = b) → spoilL b n ms (.mk hp nx gr) = some s' → Cut b n (m :: ms) (.mk hp nx gr) s' := by
      intro hm hh
      have c := ih _ _ hlt hh
      refine ⟨c.nx, c.gr, c.back, c.same, fun k hk hkb cs g hg => ?_, c.all⟩
      rcases List.mem_cons.1 hk with rfl | hk
      · exfalso
        rcases c.back k _ hg with h1 | ⟨_, cs', g', h1, _⟩
        · exact hkb (hm _ _ h1)
        · exact hkb (hm _ _ h1)
      · exact c.cut k hk hkb cs g hg
    cases hb : Nat.beq m b with
    | true =>
      rw [hb] at h'
      exact skip (fun _ _ _ => Nat.eq_of_beq_eq_true hb) h'
    | false =>
      rw [hb] at h'
      have hne : m ≠ b := fun e => by subst e; rw [Nat.beq_refl] at hb; cases hb
      cases hm : hp.get m with
      | none => rw [hm] at h'; exact skip (fun _ _ e => by rw [hm] at e; cases e) h'
      | some o =>
        rw [hm] at h'
        cases o with
        | row cs g =>
          simp only [cond] at h'
          split at h'
          · rename_i s1 hs1
            have e1 := setO_some hs1
            subst e1
            have hlt' : m < m + 1 := by have := hlt m _ hm; omega
            have gets : ∀ k, (hp.set (.row (cutTo n cs) g) m).get k = if k = m then some (.row (cs.take n) g) else hp.get k := fun k => by rw [Tr.get_set _ _ _ hlt', cutTo_eq]
            have c := ih _ _ (fun k o hk => by
              rw [show (St.mk (hp.set (.row (cutTo n cs) g) m) nx gr).hp = hp.set (.row (cutTo n cs) g) m from rfl, gets] at hk
              split at hk
              · rename_i e; subst e; exact hlt k _ hm
              · exact hlt k o hk) h'
            refine ⟨c.nx, c.gr, fun k o' hk => ?_, ?_, fun k hk hkb cs' g' hg => ?_, fun k => ?_⟩
            · rcases c.back k o' hk with h1 | ⟨h0, cs', g', h1, rfl⟩
              · rw [show (St.mk (hp.set (.row (cutTo n cs) g) m) nx gr).hp = hp.set (.row (cutTo n cs) g) m from rfl, gets] at h1
                split at h1
                · rename_i e; subst e; cases h1; exact .inr ⟨hne, cs, g, hm, rfl⟩
                · exact .inl h1
              · rw [show (St.mk (hp.set (.row (cutTo n cs) g) m) nx gr).hp = hp.set (.row (cutTo n cs) g) m from rfl, gets] at h1
                split at h1
                · rename_i e; subst e; cases h1; exact .inr ⟨hne, cs, g, hm, by rw [List.take_take, Nat.min_self]⟩
                · exact .inr ⟨h0, cs', g', h1, rfl⟩
            · rw [c.same]; show (hp.set (.row (cutTo n cs) g) m).get b = hp.get b; rw [gets, if_neg (fun e => hne e.symm)]
            · rcases List.mem_cons.1 hk with rfl | hk
              · rcases c.back k _ hg with h1 | ⟨_, cs2, g2, h1, e⟩
                · rw [show (St.mk (hp.set (.row (cutTo n cs) g) k) nx gr).hp = hp.set (.row (cutTo n cs) g) k from rfl, gets, if_pos rfl] at h1
                  cases h1; simp; omega
                · cases e; simp; omega
              · exact c.cut k hk hkb cs' g' hg
            · rw [c.all k]
              show ((hp.set (.row (cutTo n cs) g) m).get k).isSome = (hp.get k).isSome
              rw [gets]
              split
              · rename_i e; subst e; rw [hm]; rfl
              · rfl
          · cases h'
        | ro cs => exact skip (fun _ _ e => by rw [hm] at e; cases e) h'
        | map es c => exact skip (fun _ _ e => by rw [hm] at e; cases e) h'
        | loop l k tm => exact skip (fun _ _ e => by rw [hm] at e; cases e) h'
        | dfr c => exact skip (fun _ _ e => by rw [hm] at e; cases e) h'
        | iter => exact skip (fun _ _ e => by rw [hm] at e; cases e) h'
        | dead => exact skip (fun _ _ e => by rw [hm] at e; cases e) h'
theorem Cut.refl (b n : Nat) (s : St) : Cut b n [] s s := ⟨rfl, rfl, fun m o h => .inl h, rfl, fun m hm => by simp at hm, fun _ => rfl⟩
/-- The others of the group of b, from cell n on. -/
theorem spoil_cut {s s' : St} {g b n : Nat} (hlt : ∀ m o, s.hp.get m = some o → m < m + 1) (h : spoil s g b n = some s') :
    ∃ ms, Cut b n ms s s' ∧ (s.gr.get g = none ∧ ms = [] ∨ s.gr.get g = some ms) := by
  obtain ⟨hp, nx, gr⟩ := s
  unfold spoil at h
  simp only at h
  split at h
  · rename_i e; cases h; exact ⟨[], Cut.refl _ _ _, .inl ⟨e, rfl⟩⟩
  · rename_i ms e; exact ⟨ms, spoilL_cut b n ms _ _ hlt h, .inr e⟩
end Go.Ev
