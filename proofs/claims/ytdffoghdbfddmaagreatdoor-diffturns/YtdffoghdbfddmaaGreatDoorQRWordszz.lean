import Derived.Test.YtdffoghdbfddmaaGreatDoorE2zz
import Derived.Test.YtdffoghdbfddmaaGreatDoorQSchedzz
import Derived.Test.YtdffoghdbfddmaaGreatDoorQRRotzz
/-
  The evaluator: cells written.
-/
namespace Go.Ev
open Go
def World.row (w : World) (g : Nat) (o : Obj) : World := { w with heap := w.heap.setIfInBounds g o }
theorem row_heap (w : World) (g : Nat) (o : Obj) (B : Nat) (hg : g < w.heap.size) : (World.row w g o).heap[B]? = if B = g then some o else w.heap[B]? := by
  simp only [World.row, Array.getElem?_setIfInBounds]
  by_cases h : g = B
  · subst h; simp [hg]
  · rw [if_neg h, if_neg (fun e => h e.symm)]
/-- One cell stored. -/
theorem run_store1 (P : Program) (w : World) (g i : Nat) (c : Array Value) (ty : TypeId) (fr : Nat × Nat) (v : Value) (hw : w.heap[g]? = some (.cells c ty fr)) (hi : i < c.size)
    (hf : ¬ (fr.1 ≤ i ∧ i < fr.2)) (hv : one v = true) : (store ⟨g, i, none⟩ v).run P w = .ok () (World.row w g (.cells (c.setIfInBounds i v) ty fr)) := by
  have hg : g < w.heap.size := by
    rcases Nat.lt_or_ge g w.heap.size with h | h
    · exact h
    · rw [Array.getElem?_eq_none h] at hw; cases hw
  have hc : w.cell? ⟨g, i, none⟩ = some c[i] := by simp [World.cell?, hw, hi]
  have hfz : w.frozen? ⟨g, i, none⟩ = false := by
    simp only [World.frozen?, hw, Bool.and_eq_false_iff, decide_eq_false_iff_not]
    rcases Nat.lt_or_ge i fr.1 with h | h
    · exact .inl (by omega)
    · exact .inr (fun h' => hf ⟨h, h'⟩)
  have hset : w.setCell ⟨g, i, none⟩ v = World.row w g (.cells (c.setIfInBounds i v) ty fr) := by
    unfold World.setCell World.row
    congr 1
    apply Array.ext_getElem?
    intro k
    simp only [Array.getElem?_modify, Array.getElem?_setIfInBounds]
    by_cases e : g = k
    · subst e
      have e2 : w.heap[g] = .cells c ty fr := by rw [Array.getElem?_eq_getElem hg] at hw; exact Option.some.inj hw
      simp [hg, e2]
    · simp [e]
  have : ∀ v, one v = true → (Sem.store .plain ⟨g, i, none⟩ v (.pure ())).run P w = .ok () (w.setCell ⟨g, i, none⟩ v) := by
    intro v hv
    cases v <;> first | (cases hv; done) | (simp only [Sem.run, hc, hfz]; rfl) 
  rw [← hset]
  exact this v hv
theorem add_eq (g o i : Nat) : (⟨g, o, none⟩ : Addr).add i = ⟨g, o + i, none⟩ := by
  unfold Addr.add
  split
  · subst_vars; rfl
  · rfl
/-- The cells of an array with others laid over. -/
def lay (c : Array Value) (o : Nat) : List Value → Array Value
  | [] => c
  | v :: vs => lay (c.setIfInBounds o v) (o + 1) vs
theorem lay_size : ∀ (vs : List Value) (c : Array Value) (o : Nat), (lay c o vs).size = c.size
  | [], _, _ => rfl
  | v :: vs, c, o => by rw [lay, lay_size vs]; simp
theorem lay_get : ∀ (vs : List Value) (c : Array Value) (o i : Nat), o + vs.length ≤ c.size → (lay c o vs)[i]? = if o ≤ i ∧ i < o + vs.length then vs[i - o]? else c[i]?
  | [], c, o, i, _ => by rw [lay, if_neg (by simp)]
  | v :: vs, c, o, i, h => by
    simp only [List.length_cons] at h
    rw [lay, lay_get vs _ (o + 1) i (by simp; omega), Array.getElem?_setIfInBounds]
    simp only [List.length_cons]
    rcases Nat.lt_trichotomy i o with e | e | e
    · rw [if_neg (by omega), if_neg (by omega), if_neg (by omega)]
    · subst e
      rw [if_neg (by omega), if_pos rfl, if_pos (by omega), if_pos (by omega)]
      simp
    · by_cases k : i < o + 1 + vs.length
      · rw [if_pos (by omega), if_pos (by omega)]
        have : i - o = (i - (o + 1)) + 1 := by omega
        rw [this]; simp
      · rw [if_neg (by omega), if_neg (by omega), if_neg (by omega)]
theorem run_storeCells_lay (P : Program) (g : Nat) (ty : TypeId) (fr : Nat × Nat) (o : Nat) {gg : Nat} : ∀ (vs : List Value) (i : Nat) (c : Array Value) (w : World), w.heap[g]? = some (.cells c ty fr) → o + i + vs.length ≤ c.size →
    Thaw gg fr c.size → (∀ v ∈ vs, one v = true) → (storeCells ⟨g, o, none⟩ vs i).run P w = .ok () (match vs with | [] => w | _ => World.row w g (.cells (lay c (o + i) vs) ty fr))
  | [], i, c, w, _, _, _, _ => by simp [storeCells]
  | v :: vs, i, c, w, hw, hi, ht, hv => by
    simp only [List.length_cons] at hi
    have hg : g < w.heap.size := by
      rcases Nat.lt_or_ge g w.heap.size with h | h
      · exact h
      · rw [Array.getElem?_eq_none h] at hw; cases hw
    have h1 := run_store1 P w g (o + i) c ty fr v hw (by omega) (ht.not _ (by omega)) (hv v (by simp))
    have h2 := run_storeCells_lay P g ty fr o vs (i + 1) (c.setIfInBounds (o + i) v) (World.row w g (.cells (c.setIfInBounds (o + i) v) ty fr)) (by rw [row_heap _ _ _ _ hg, if_pos rfl]) (by simp; omega) (by simpa using ht) (fun u hu => hv u (by simp [hu]))
    simp only [storeCells, Sem.run_bind, add_eq, h1, Result.andThen_ok, h2]
    cases vs with
    | nil => rfl
    | cons u us =>
      simp only [lay, World.row, Array.setIfInBounds_setIfInBounds, Nat.add_assoc]
/-! ### The others of a group -/
theorem cutTo_eq (n : Nat) (l : List Value) : cutTo n l = l.take n := by
  unfold cutTo
  cases h : takeO n l with
  | some ys => exact (takeO_some.1 h).2
  | none =>
    rcases Nat.le_total n l.length with k | k
    · rw [(takeO_some.2 ⟨k, rfl⟩)] at h; cases h
    · exact (List.take_of_length_le k).symm
/-- Some rows are cut behind n cells; all else is as it was. -/
structure Cut (b n : Nat) (ms : List Nat) (s s' : St) : Prop where
  nx : s'.nx = s.nx
  gr : s'.gr = s.gr
  back : ∀ m o', s'.hp.get m = some o' → s.hp.get m = some o' ∨ m ≠ b ∧ ∃ cs g, s.hp.get m = some (.row cs g) ∧ o' = .row (cs.take n) g
  same : s'.hp.get b = s.hp.get b
  cut : ∀ m, m ∈ ms → m ≠ b → ∀ cs g, s'.hp.get m = some (.row cs g) → cs.length ≤ n
  all : ∀ m, (s'.hp.get m).isSome = (s.hp.get m).isSome
theorem spoilL_cut (b n : Nat) : ∀ (ms : List Nat) (s s' : St), (∀ m o, s.hp.get m = some o → m < m + 1) → spoilL b n ms s = some s' → Cut b n ms s s' := by
  intro ms
  induction ms with
  | nil => intro s s' _ h; cases h; exact ⟨rfl, rfl, fun m o h => .inl h, rfl, fun m hm => by simp at hm, fun _ => rfl⟩
  | cons m ms ih =>
    intro s s' hlt h
    obtain ⟨hp, nx, gr⟩ := s
    have h' : cond (Nat.beq m b) (spoilL b n ms (.mk hp nx gr)) (match hp.get m with
      | some (.row cs g) => match setO hp nx gr m (.row (cutTo n cs) g) with
        | some s => spoilL b n ms s
        | none => none
      | _ => spoilL b n ms (.mk hp nx gr)) = some s' := h
    have skip : (∀ cs g, hp.get m = some (.row cs g) → m = b) → spoilL b n ms (.mk hp nx gr) = some s' → Cut b n (m :: ms) (.mk hp nx gr) s' := by
      intro hm hh
      have c := ih _ _ hlt hh
      refine ⟨c.nx, c.gr, c.back, c.same, fun k hk hkb cs g hg => ?_, c.all⟩
      rcases List.mem_cons.1 hk with rfl | hk
      · exfalso
        rcases c.back k _ hg with h1 | ⟨_, cs', g', h1, _⟩
        · exact hkb (hm _ _ h1)
        · exact hkb (hm _ _ h1)
      · exact c.cut k hk hkb cs g hg
    cases hb : Nat.beq m b with
    | true =>
      rw [hb] at h'
      exact skip (fun _ _ _ => Nat.eq_of_beq_eq_true hb) h'
    | false =>
      rw [hb] at h'
      have hne : m ≠ b := fun e => by subst e; rw [Nat.beq_refl] at hb; cases hb
      cases hm : hp.get m with
      | none => rw [hm] at h'; exact skip (fun _ _ e => by rw [hm] at e; cases e) h'
      | some o =>
        rw [hm] at h'
        cases o with
        | row cs g =>
          simp only [cond] at h'
          split at h'
          · rename_i s1 hs1
            have e1 := setO_some hs1
            subst e1
            have hlt' : m < m + 1 := by have := hlt m _ hm; omega
            have gets : ∀ k, (hp.set (.row (cutTo n cs) g) m).get k = if k = m then some (.row (cs.take n) g) else hp.get k := fun k => by rw [Tr.get_set _ _ _ hlt', cutTo_eq]
            have c := ih _ _ (fun k o hk => by
              rw [show (St.mk (hp.set (.row (cutTo n cs) g) m) nx gr).hp = hp.set (.row (cutTo n cs) g) m from rfl, gets] at hk
              split at hk
              · rename_i e; subst e; exact hlt k _ hm
              · exact hlt k o hk) h'
            refine ⟨c.nx, c.gr, fun k o' hk => ?_, ?_, fun k hk hkb cs' g' hg => ?_, fun k => ?_⟩
            · rcases c.back k o' hk with h1 | ⟨h0, cs', g', h1, rfl⟩
              · rw [show (St.mk (hp.set (.row (cutTo n cs) g) m) nx gr).hp = hp.set (.row (cutTo n cs) g) m from rfl, gets] at h1
                split at h1
                · rename_i e; subst e; cases h1; exact .inr ⟨hne, cs, g, hm, rfl⟩
                · exact .inl h1
              · rw [show (St.mk (hp.set (.row (cutTo n cs) g) m) nx gr).hp = hp.set (.row (cutTo n cs) g) m from rfl, gets] at h1
                split at h1
                · rename_i e; subst e; cases h1; exact .inr ⟨hne, cs, g, hm, by rw [List.take_take, Nat.min_self]⟩
                · exact .inr ⟨h0, cs', g', h1, rfl⟩
            · rw [c.same]; show (hp.set (.row (cutTo n cs) g) m).get b = hp.get b; rw [gets, if_neg (fun e => hne e.symm)]
            · rcases List.mem_cons.1 hk with rfl | hk
              · rcases c.back k _ hg with h1 | ⟨_, cs2, g2, h1, e⟩
                · rw [show (St.mk (hp.set (.row (cutTo n cs) g) k) nx gr).hp = hp.set (.row (cutTo n cs) g) k from rfl, gets, if_pos rfl] at h1
                  cases h1; simp; omega
                · cases e; simp; omega
              · exact c.cut k hk hkb cs' g' hg
            · rw [c.all k]
              show ((hp.set (.row (cutTo n cs) g) m).get k).isSome = (hp.get k).isSome
              rw [gets]
              split
              · rename_i e; subst e; rw [hm]; rfl
              · rfl
          · cases h'
        | ro cs => exact skip (fun _ _ e => by rw [hm] at e; cases e) h'
        | map es c => exact skip (fun _ _ e => by rw [hm] at e; cases e) h'
        | loop l k tm => exact skip (fun _ _ e => by rw [hm] at e; cases e) h'
        | dfr c => exact skip (fun _ _ e => by rw [hm] at e; cases e) h'
        | iter => exact skip (fun _ _ e => by rw [hm] at e; cases e) h'
        | dead => exact skip (fun _ _ e => by rw [hm] at e; cases e) h'
theorem Cut.refl (b n : Nat) (s : St) : Cut b n [] s s := ⟨rfl, rfl, fun m o h => .inl h, rfl, fun m hm => by simp at hm, fun _ => rfl⟩
/-- The others of the group of b, from cell n on. -/
theorem spoil_cut {s s' : St} {g b n : Nat} (hlt : ∀ m o, s.hp.get m = some o → m < m + 1) (h : spoil s g b n = some s') :
    ∃ ms, Cut b n ms s s' ∧ (s.gr.get g = none ∧ ms = [] ∨ s.gr.get g = some ms) := by
  obtain ⟨hp, nx, gr⟩ := s
  unfold spoil at h
  simp only at h
  split at h
  · rename_i e; cases h; exact ⟨[], Cut.refl _ _ _, .inl ⟨e, rfl⟩⟩
  · rename_i ms e; exact ⟨ms, spoilL_cut b n ms _ _ hlt h, .inr e⟩
end Go.Ev
/-
  A block's sixty-four words: the document's way.
-/
namespace Go.Proofs.YtdffoghdbfddmaaGreatDoor.Dg
open Go.RowKit
theorem two64_drew {w w1 w2 : World} {f : Nat → Nat} (h : Hid (Two64 w w1 f)) (hq : ∃ q, w2 = w1.drewN q) : Hid (Two64 w w2 f) := by
  obtain ⟨q, rfl⟩ := hq
  exact h.out.drewN q
set_option maxRecDepth 100000 in
set_option maxHeartbeats 8000000 in
theorem rwords_any (w : World) (a : Option Addr) (b off c : Nat) (B : Nat → Nat) (h : View w a b off 64 (fun i => (B i : Int))) (hB : ∀ i, B i < 256) :
    Calls Tryz.prog 76 #[.slice a 64 c] w fun e w' => (∃ cs : Array Value, e = .returned (.agg cs) ∧ cs.size = 64 ∧ ∀ i, i < 64 → cs[i]? = some (.int .u32 (sched B i))) ∧ Below w.heap.size w w' := by
  obtain rfl := h.at_ (by omega)
  have hb := h.lt (by omega)
  go_enter Tryz.func76, Tryz.ntmps76
  go_wp2
  go_loopg [4] 16 (fun g i wr => ∃ k : Nat, k ≤ 16 ∧ g = 16 - k ∧ i = .int .i64 k ∧ Two64 w wr (fun i => if i < k then sched B i else 0))
  case atStart => exact ⟨0, by omega, rfl, rfl, (two64_start w).congr (fun i _ => by simp)⟩
  case round =>
    obtain ⟨k, hk, rfl, rfl, hR⟩ := hrel
    by_cases hkn : k < 16
    · have c0 : wr.cell? ⟨b, off + 4 * k, none⟩ = some (.int .u8 (B (4 * k))) := (hR.below.cell (p := ⟨b, off + 4 * k, none⟩) hb).trans (h.cell (4 * k) (by omega))
      have c1 : wr.cell? ⟨b, off + (4 * k + 1), none⟩ = some (.int .u8 (B (4 * k + 1))) := (hR.below.cell (p := ⟨b, off + (4 * k + 1), none⟩) hb).trans (h.cell (4 * k + 1) (by omega))
      have c2 : wr.cell? ⟨b, off + (4 * k + 2), none⟩ = some (.int .u8 (B (4 * k + 2))) := (hR.below.cell (p := ⟨b, off + (4 * k + 2), none⟩) hb).trans (h.cell (4 * k + 2) (by omega))
      have c3 : wr.cell? ⟨b, off + (4 * k + 3), none⟩ = some (.int .u8 (B (4 * k + 3))) := (hR.below.cell (p := ⟨b, off + (4 * k + 3), none⟩) hb).trans (h.cell (4 * k + 3) (by omega))
      have fz := hR.row.frozen k
      have cc := hR.row.cell (i := k) (by omega)
      simp only [Nat.lt_irrefl, if_false] at cc
      have HR : Hid (Two64 w wr (fun i => if i < k then sched B i else 0)) := hR
      clear hR
      go_wp2
      go_region
      go_wp2
      rw [be_spelt hB k]
      clear cc fz c0 c1 c2 c3
      go_roundg (16 - (k + 1))
      case measure => omega
      case rel =>
        refine ⟨k + 1, by omega, rfl, by go_num, ((HR.out.set k (be B k)).drew).congr (fun i _ => ?_)⟩
        by_cases e : i = k
        · subst e
          rw [if_pos rfl, if_pos (by omega), sched_low B hkn]
        · rw [if_neg e]
          by_cases e2 : i < k
          · rw [if_pos e2, if_pos (by omega)]
          · rw [if_neg e2, if_neg (by omega)]
    · have : k = 16 := by omega
      subst this
      go_wp2
      have HR : Hid (Two64 w wr (fun i => if i < 16 then sched B i else 0)) := hR
      clear hR
      go_loopg [5] 48 (fun g i wr => ∃ k : Nat, 16 ≤ k ∧ k ≤ 64 ∧ g = 64 - k ∧ i = .int .i64 k ∧ Two64 w wr (fun i => if i < k then sched B i else 0))
      case atStart => exact ⟨16, by omega, by omega, rfl, rfl, HR⟩
      case round =>
        clear HR
        obtain ⟨k, hk0, hk, rfl, rfl, hR⟩ := hrel
        by_cases hkn : k < 64
        · have c2 := hR.row.cell (i := k - 2) (by omega)
          have c7 := hR.row.cell (i := k - 7) (by omega)
          have c15 := hR.row.cell (i := k - 15) (by omega)
          have c16 := hR.row.cell (i := k - 16) (by omega)
          rw [if_pos (by omega)] at c2 c7 c15 c16
          have l2 := sched_lt hB (k - 2)
          have l7 := sched_lt hB (k - 7)
          have l15 := sched_lt hB (k - 15)
          have l16 := sched_lt hB (k - 16)
          have E := sched_high B hk0
          obtain ⟨x2, h2⟩ : ∃ x, x = sched B (k - 2) := ⟨_, rfl⟩
          obtain ⟨x7, h7⟩ : ∃ x, x = sched B (k - 7) := ⟨_, rfl⟩
          obtain ⟨x15, h15⟩ : ∃ x, x = sched B (k - 15) := ⟨_, rfl⟩
          obtain ⟨x16, h16⟩ : ∃ x, x = sched B (k - 16) := ⟨_, rfl⟩
          rw [← h2] at c2 l2
          rw [← h7] at c7 l7
          rw [← h15] at c15 l15
          rw [← h16] at c16 l16
          rw [← h2, ← h7, ← h15, ← h16] at E
          have H7 : Hid (x7 = sched B (k - 7) ∧ x16 = sched B (k - 16)) := ⟨h7, h16⟩
          clear h2 h7 h15 h16
          have HE : Hid (sched B k = wnew x2 x7 x15 x16) := E
          clear E
          have fz := hR.row.frozen k
          have cc := hR.row.cell (i := k) (by omega)
          simp only [Nat.lt_irrefl, if_false] at cc
          have HR : Hid (Two64 w wr (fun i => if i < k then sched B i else 0)) := hR
          clear hR
          go_wp2_with fail
          refine (turned_any _ x15 7 l15 (by omega) (by omega)).mono ?_
          rintro _ wq ⟨rfl, hq⟩
          replace HR := two64_drew HR hq
          clear hq
          go_wp2_with fail
          refine (turned_any _ x15 18 l15 (by omega) (by omega)).mono ?_
          rintro _ wq2 ⟨rfl, hq⟩
          replace HR := two64_drew HR hq
          clear hq
          go_wp2_with fail
          refine (turned_any _ x2 17 l2 (by omega) (by omega)).mono ?_
          rintro _ wq3 ⟨rfl, hq⟩
          replace HR := two64_drew HR hq
          clear hq
          go_wp2_with fail
          refine (turned_any _ x2 19 l2 (by omega) (by omega)).mono ?_
          rintro _ wp ⟨rfl, hq⟩
          replace HR := two64_drew HR hq
          clear hq
          go_wp2_with fail
          have c7' : wp.cell? ⟨w.heap.size + 1, k - 7, none⟩ = some (.int .u32 x7) := by
            have e := HR.out.row.cell (i := k - 7) (by omega)
            rw [if_pos (by omega), ← H7.out.1] at e
            exact e
          have c16' : wp.cell? ⟨w.heap.size + 1, k - 16, none⟩ = some (.int .u32 x16) := by
            have e := HR.out.row.cell (i := k - 16) (by omega)
            rw [if_pos (by omega), ← H7.out.2] at e
            exact e
          clear c2 c7 c15 c16 fz cc
          have fz := HR.out.row.frozen k
          have cc := HR.out.row.cell (i := k) (by omega)
          simp only [Nat.lt_irrefl, if_false] at cc
          rw [s0_spelt l15, s1_spelt l2]
          have m0 := s0_lt l15
          have m1 := s1_lt l2
          obtain ⟨y0, hy0⟩ : ∃ y, y = s0 x15 := ⟨_, rfl⟩
          obtain ⟨y1, hy1⟩ : ∃ y, y = s1 x2 := ⟨_, rfl⟩
          rw [← hy0] at m0 ⊢
          rw [← hy1] at m1 ⊢
          have Hy : Hid (y0 = s0 x15 ∧ y1 = s1 x2) := ⟨hy0, hy1⟩
          clear hy0 hy1
          go_wp2
          go_region
          go_wp2
          have V : ((y1 : Int) + (x7 : Int) + (y0 : Int) + (x16 : Int)) % 4294967296 = ((sched B k : Nat) : Int) := by
            rw [HE.out, Hy.out.1, Hy.out.2]
            simp only [wnew, M]
            omega
          rw [V]
          clear cc fz c7' c16'
          go_roundg (64 - (k + 1))
          case measure => omega
          case rel =>
            refine ⟨k + 1, by omega, by omega, rfl, by go_num, ((HR.out.set k (sched B k)).drew).congr (fun i _ => ?_)⟩
            by_cases e : i = k
            · subst e
              rw [if_pos rfl, if_pos (by omega)]
            · rw [if_neg e]
              by_cases e2 : i < k
              · rw [if_pos e2, if_pos (by omega)]
              · rw [if_neg e2, if_neg (by omega)]
        · have : k = 64 := by omega
          subst this
          obtain ⟨cs, hg, hsz, hcs⟩ := hR.row
          obtain ⟨os, og, osz, _⟩ := hR.out
          have hi : (Tryz.prog.info? 154).map (·.size) = some cs.size := by rw [hsz]; exact info62
          have h1 : cs.all (·.oneCell') = true := all_one (fun i hi => ⟨_, _, hcs i (by omega)⟩)
          have HR : Hid (Two64 w wr (fun i => if i < 64 then sched B i else 0)) := hR
          clear hR
          go_wp2_with (first
            | refine wpList_load_row rfl 154 (.tmp 3) rfl (w.heap.size + 1) rfl 154 cs (0, 0) _ hg Tryz.underlying154 rfl hi ?_
            | refine wpList_store_row rfl 154 (.tmp 2) (.tmp 92) rfl w.heap.size cs rfl rfl 154 os og hi (by omega) h1 ?_)
          refine bodyPost_ret (v := .agg cs) ?_ rfl ?_
          · exact results_cell_row rfl _ _ w.heap.size 154 cs (0, 0) _ rfl (setRow_heap _ _ _ _ _ _ og) Tryz.underlying154 rfl hi
          refine ⟨⟨cs, rfl, hsz, fun i hi => by rw [hcs i hi, if_pos hi]⟩, below_setRow HR.out.below (Nat.le_refl _) _⟩
end Go.Proofs.YtdffoghdbfddmaaGreatDoor.Dg
