/-
  A device's field stored; media.mayBe, (*Device).next.
-/
import Derived.Test.YthjcndlapelnlaaDv
namespace Go.Proofs.Ythjcndlapelnlaa
open Go.RowKit

theorem blk_set {w : World} {g : Nat} {cs : Array Value} {t : TypeId} {fz : Nat × Nat} (h : w.heap[g]? = some (.cells cs t fz)) (i : Nat) (v : Value) : (w.setCell ⟨g, i, none⟩ v).heap[g]? = some (.cells (cs.setIfInBounds i v) t fz) := by
  simp [World.setCell, Array.getElem?_modify, h]
theorem cells_hi (d : Dvf) : d.cells = ([.int .i64 d.sl, .int .i64 d.rm, d.bl, d.lg] ++ rgc d.c d.tag) ++ [.bool d.dn, d.ch, d.ac, d.ve, d.st, d.ls, d.tc] := by
  unfold Dvf.cells dvc
  simp
theorem set_hi {d : Dvf} (ht : d.tag.length = 32) (k : Nat) (v : Value) : d.cells.set (37 + k) v = ([.int .i64 d.sl, .int .i64 d.rm, d.bl, d.lg] ++ rgc d.c d.tag) ++ [.bool d.dn, d.ch, d.ac, d.ve, d.st, d.ls, d.tc].set k v := by
  rw [cells_hi]
  have hl : ([.int .i64 d.sl, .int .i64 d.rm, d.bl, d.lg] ++ rgc d.c d.tag).length = 37 := by rw [List.length_append, rgc_len ht]; rfl
  rw [List.set_append_right _ _ (by rw [hl]; omega), hl, Nat.add_sub_cancel_left]
theorem db_set {w : World} {g : Nat} {d d' : Dvf} (h : Db w g d) (i : Nat) (v : Value) (e : d.cells.set i v = d'.cells) (ht : d'.tag.length = 32) : Db (w.setCell ⟨g, i, none⟩ v) g d' :=
  ⟨by rw [blk_set h.blk i v, List.setIfInBounds_toArray, e], ht⟩
theorem Db.setCh {w : World} {g : Nat} {d : Dvf} (h : Db w g d) (v : Value) : Db (w.setCell ⟨g, 38, none⟩ v) g { d with ch := v } := db_set h 38 v ((set_hi h.tag 1 v).trans (cells_hi { d with ch := v }).symm) h.tag
theorem Db.setAc {w : World} {g : Nat} {d : Dvf} (h : Db w g d) (v : Value) : Db (w.setCell ⟨g, 39, none⟩ v) g { d with ac := v } := db_set h 39 v ((set_hi h.tag 2 v).trans (cells_hi { d with ac := v }).symm) h.tag
theorem Db.setLs {w : World} {g : Nat} {d : Dvf} (h : Db w g d) (v : Value) : Db (w.setCell ⟨g, 42, none⟩ v) g { d with ls := v } := db_set h 42 v ((set_hi h.tag 5 v).trans (cells_hi { d with ls := v }).symm) h.tag
theorem Db.setTc {w : World} {g : Nat} {d : Dvf} (h : Db w g d) (v : Value) : Db (w.setCell ⟨g, 43, none⟩ v) g { d with tc := v } := db_set h 43 v ((set_hi h.tag 6 v).trans (cells_hi { d with tc := v }).symm) h.tag
theorem Db.setDn {w : World} {g : Nat} {d : Dvf} (h : Db w g d) (b : Bool) : Db (w.setCell ⟨g, 37, none⟩ (.bool b)) g { d with dn := b } := db_set h 37 _ ((set_hi h.tag 0 _).trans (cells_hi { d with dn := b }).symm) h.tag
theorem Db.setLg {w : World} {g : Nat} {d : Dvf} (h : Db w g d) (v : Value) : Db (w.setCell ⟨g, 3, none⟩ v) g { d with lg := v } := db_set h 3 v rfl h.tag
theorem Db.frz {w : World} {g : Nat} {d : Dvf} (h : Db w g d) (i : Nat) : w.frozen? ⟨g, i, none⟩ = false := by
  simp [World.frozen?, h.blk]

/-! ### requests -/
def mayB (k : Int) (n : Nat) (c : Int) : Bool := if k = 2 then decide (n ≤ 1024) else if k = 10 then cntB c else true
theorem rq_at (w : World) (k : Int) (key : List Nat) (b : Value) (n c : Int) (tag : List Nat) (hk : key.length = 32) {g : Nat} (h : w.rangeAt g 0 (rqc k key b n c tag)) :
    w.cell? ⟨g, 0, none⟩ = some (.int .i64 k) ∧ w.rangeAt g 1 (bv key) ∧ w.cell? ⟨g, 33, none⟩ = some b ∧ w.cell? ⟨g, 34, none⟩ = some (.int .i64 n) ∧ w.cell? ⟨g, 35, none⟩ = some (.int .i64 c) ∧ w.rangeAt g 35 (rgc c tag) := by
  obtain ⟨h1, h2⟩ := rng_head h
  have h3 := rng_left h2
  have h4 := rng_right h2
  rw [bv_len, hk] at h4
  obtain ⟨h5, h6⟩ := rng_head h4
  obtain ⟨h7, h8⟩ := rng_head h6
  exact ⟨h1, h3, h5, h7, (rng_head h8).1, h8⟩
set_option maxRecDepth 100000 in
set_option maxHeartbeats 800000 in
theorem mayBe_any (w : World) (k : Int) (key : List Nat) (a : Option Addr) (m cp : Nat) (n c : Int) (tag : List Nat) (hk : key.length = 32) (hm : m ≤ 140737488351232) :
    Calls Try.prog 39 #[.agg (rqc k key (.slice a m cp) n c tag).toArray] w fun e w' => e = .returned (.bool (mayB k m c)) ∧ Below w.heap.size w w' := by
  have hr := rng_new w (rqc k key (.slice a m cp) n c tag) 77
  obtain ⟨c0, _, c33, _, c35, _⟩ := rq_at _ k key _ n c tag hk hr
  obtain ⟨L, hL⟩ : ∃ L, L = (rqc k key (.slice a m cp) n c tag).toArray := ⟨_, rfl⟩
  rw [← hL] at c0 c33 c35 ⊢
  have HB : Hid (∀ t, Below w.heap.size w (w.alloc (.cells L t))) := fun t => (Below.refl _ _).alloc (Nat.le_refl _) _
  clear hr hL
  by_cases h2 : k = 2
  · subst h2
    have HE : Hid (mayB 2 m c = decide ((m : Int) ≤ 1024)) := by
      show decide (m ≤ 1024) = _
      exact decide_eq_decide.2 (by omega)
    go_enter Try.func39, Try.ntmps39
    go_wp2_with fail
    go_ret
    exact ⟨by rw [HE.out]; rfl, HB.out _⟩
  have e2 : (k == 2) = false := by simpa using h2
  by_cases h10 : k = 10
  · subst h10
    go_enter Try.func39, Try.ntmps39
    go_wp2_with fail
    refine (count_any _ c).mono ?_
    rintro e w' ⟨rfl, rfl⟩
    go_wp2_with fail
    go_ret
    exact ⟨rfl, HB.out _⟩
  have e10 : (k == 10) = false := by simpa using h10
  have HE : Hid (mayB k m c = true) := by
    show mayB k m c = true
    unfold mayB
    rw [if_neg h2, if_neg h10]
  go_enter Try.func39, Try.ntmps39
  go_wp2_with fail
  go_ret
  exact ⟨by rw [HE.out]; rfl, HB.out _⟩
/-! ### the next choice -/
theorem elem28 : Try.prog.elem 28 = 27 := by kernel_rfl
theorem size27 (w : World) : (sizeOf 27).run Try.prog w = .ok 3 w := by
  have := i27
  cases hq : Try.prog.info? 27 with
  | none => simp [hq] at this
  | some i => simp [hq] at this; simp [sizeOf, typeInfo, hq, this]
/-- a list's block is not g -/
def Far (v : Value) (g : Nat) : Prop := ∀ (a : Option Addr) (n c : Nat) (p : Addr), v = .slice a n c → a = some p → p.block ≠ g
theorem Chs.turn {F : Nat → Prop} {w w' : World} {v : Value} {C : List Cho} (h : Chs w v C) (t : Turn F w w') (hF : ∀ (a : Option Addr) (n c : Nat) (p : Addr), v = .slice a n c → a = some p → ¬ F p.block) : Chs w' v C := by
  obtain ⟨a, b, off, c, e, h1, h2, r⟩ := h
  refine ⟨a, b, off, c, e, h1, fun i x hx j u hu => ?_, r⟩
  have hc := h2 i x hx j u hu
  have ha := h1 (by have := (List.getElem?_eq_some_iff.1 hx).1; omega)
  rw [t.cell (q := ⟨b, off + i * 3 + j, none⟩) (World.block_lt_of_cell? _ _ hc) (hF a _ c ⟨b, off, none⟩ e ha)]
  exact hc
/-- the choices behind the first -/
theorem slice28 {w : World} {v : Value} {x : Cho} {C : List Cho} (h : Chs w v (x :: C)) : ∃ v', (∀ u, (Instr.slice 28 v (some (.int .i64 1)) none none).run Try.prog u = .ok v' u) ∧ Chs w v' C ∧ (∃ a n c, v' = .slice a n c) ∧ ∀ g, Far v g → Far v' g := by
  obtain ⟨a, b, off, c, rfl, h1, h2, h3, h4, h5⟩ := h
  obtain rfl := h1 (by simp)
  have hl : (x :: C).length = C.length + 1 := rfl
  refine ⟨.slice (if c = 1 then some ⟨b, off, none⟩ else some ⟨b, off + 3, none⟩) C.length (c - 1), fun u => ?_, ⟨_, b, off + 3, c - 1, rfl, fun h0 => ?_, fun i y hy => ?_, by omega, fun e => ?_, by omega⟩, ⟨_, _, _, rfl⟩, fun g hf => ?_⟩
  · have := run_slice_l u 28 (some ⟨b, off, none⟩) (x :: C).length c (by rw [elem28]; exact Try.underlying28) (P := Try.prog) .i64 1 (by omega) (by omega)
    rw [this, elem28, size27]
    simp only [Result.andThen, sliced]
    by_cases e : c = 1
    · rw [if_pos e]
      simp [e]
    · rw [if_neg e]
      simp [e, Go.WideShapes.add_plain]
  · rw [if_neg (by omega)]
  · have := h2 (i + 1) y (by simpa using hy)
    rw [show off + (i + 1) * 3 = off + 3 + i * 3 by omega] at this
    exact this
  · split at e <;> cases e
  · intro a n cc p e ha
    injection e with e1 _ _
    have hb := hf _ _ _ _ rfl rfl
    rw [ha] at e1
    split at e1
    · have := Option.some.inj e1
      rw [← this]; exact hb
    · have := Option.some.inj e1
      rw [← this]; exact hb
/-- the first, and those behind it -/
def hdC : List Cho → Cho
  | [] => ⟨0, 0, 0⟩
  | x :: _ => x
def tlC : List Cho → List Cho
  | [] => []
  | _ :: C => C
set_option maxRecDepth 100000 in
set_option maxHeartbeats 1600000 in
theorem next_any {w : World} {g : Nat} {d : Dvf} {C : List Cho} (h : Db w g d) (hc : Chs w d.ch C) (hcg : Far d.ch g) :
    Calls Try.prog 40 #[.pointer (some ⟨g, 0, none⟩)] w fun e w' => e = .returned (.agg (hdC C).cells.toArray) ∧ (∃ v', Db w' g { d with ch := v' } ∧ Chs w' v' (tlC C) ∧ Far v' g) ∧ Turn (fun i => i = g) w w' := by
  obtain ⟨c0, c1, c2, c3, c4, c5, c6, c7, c8, c9, c10, c11⟩ := h.at_
  have HD : Hid (Db w g d ∧ Chs w d.ch C) := ⟨h, hc⟩
  have f6 := h.frz 38
  have hgl := h.lt
  have hgn : g ≠ w.heap.size := by omega
  clear h c0 c1 c2 c3 c4 c5 c7 c8 c9 c10 c11
  cases C with
  | nil =>
    obtain ⟨a, b, off, c, e, _⟩ := hc
    rw [e] at c6
    have HE : Hid (d.ch = .slice a 0 c) := e
    have HF : Hid (Far d.ch g) := hcg
    clear e hcg
    simp only [List.length_nil] at c6
    go_enter Try.func40, Try.ntmps40
    go_wp2_with fail
    exact bodyPost_ret (v := .agg #[.int .i64 0, .int .i64 0, .int .i64 0]) (by simp [results, Try.results40, go_sem]) rfl ⟨rfl, ⟨d.ch, HD.out.1.keep ((Below.refl _ _).alloc (Nat.le_refl _) _), HD.out.2.keep ((Below.refl _ _).alloc (Nat.le_refl _) _), HF.out⟩, Turn.alloc _ _⟩
  | cons x C =>
    obtain ⟨v', hs, hC', ⟨av', nv', cv', ev'⟩, hfar⟩ := slice28 hc
    have hF' := hfar g hcg
    obtain ⟨a, b, off, c, e, h1, h2, h3, h4, h5⟩ := hc
    obtain rfl := h1 (by simp)
    have hbg := hcg _ _ _ _ e rfl
    have HX : Hid (w.rangeAt b off [.int .i64 x.k, .int .i64 x.n, .int .i64 x.m]) := by
      have := h2 0 x rfl
      rw [Nat.zero_mul, Nat.add_zero] at this
      exact this
    rw [e] at c6 hs
    have hbl := rng_lt HX.out (by simp)
    have hbn : b ≠ w.heap.size := by omega
    have HE : Hid (Chs w v' C ∧ Far v' g) := ⟨hC', hF'⟩
    clear hfar hF'
    have hl : (x :: C).length = C.length + 1 := rfl
    rw [hl] at c6 hs
    obtain ⟨n, en⟩ : ∃ n, n = C.length := ⟨_, rfl⟩
    rw [← en] at c6 hs
    subst ev'
    clear en e h1 h2 h3 h4 hC' hcg hl
    obtain ⟨xk, xn, xm⟩ := x
    have r0 : w.cell? ⟨b, off, none⟩ = some (.int .i64 xk) := (rng_head HX.out).1
    have r1 : w.cell? ⟨b, off + 1, none⟩ = some (.int .i64 xn) := (rng_head (rng_head HX.out).2).1
    have r2 : w.cell? ⟨b, off + 2, none⟩ = some (.int .i64 xm) := (rng_head (rng_head (rng_head HX.out).2).2).1
    go_enter Try.func40, Try.ntmps40
    go_wp2_with fail
    refine bodyPost_ret (v := .agg #[.int .i64 xk, .int .i64 xn, .int .i64 xm]) (by simp [results, Try.results40, go_sem]) rfl ⟨rfl, ⟨.slice av' nv' cv', ?_, ?_, HE.out.2⟩, ?_⟩
    · exact ((HD.out.1.setCh _).keep ((Below.refl _ _).alloc (Nat.le_refl _) _)).keep ((Below.refl _ _).alloc (Nat.le_refl _) _)
    · exact (((HE.out.1.turn (Turn.setCell w ⟨g, 38, none⟩ _ (F := fun i => i = g) rfl) HE.out.2).keep ((Below.refl _ _).alloc (Nat.le_refl _) _)).keep ((Below.refl _ _).alloc (Nat.le_refl _) _))
    · exact ((Turn.setCell w ⟨g, 38, none⟩ _ (F := fun i => i = g) rfl).trans (Turn.alloc _ _ (F := fun i => i = g)) (fun i q => Or.inl q)).trans (Turn.alloc _ _ (F := fun i => i = g)) (fun i q => Or.inl q)
end Go.Proofs.Ythjcndlapelnlaa
