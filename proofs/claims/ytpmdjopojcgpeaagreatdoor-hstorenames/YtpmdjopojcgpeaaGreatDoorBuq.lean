import Derived.Test.YtpmdjopojcgpeaaGreatDoorBsq
/-
  A device's block; (*Device).time, next; mayBe; (deed).to.
-/
namespace Go.Proofs.YtpmdjopojcgpeaaGreatDoor
open Go.RowKit

/-- what a device's block holds, but for the register -/
structure Dvf where
  sl : Int
  rm : Int
  bl : Value
  lg : Value
  c : Int
  tag : List Nat
  dn : Bool
  ch : Value
  ac : Value
  ve : Value
  st : Value
  ls : Value
  tc : Value
def Dvf.cells (d : Dvf) : List Value := dvc d.sl d.rm d.bl d.lg d.c d.tag d.dn d.ch d.ac d.ve d.st d.ls d.tc
/-- THE BLOCK g IS THE DEVICE d. -/
structure Db (w : World) (g : Nat) (d : Dvf) : Prop where
  blk : w.heap[g]? = some (.cells d.cells.toArray 123 (0, 0))
  tag : d.tag.length = 32
theorem Db.rng {w : World} {g : Nat} {d : Dvf} (h : Db w g d) : w.rangeAt g 0 d.cells := rng_row h.blk
theorem Db.lt {w : World} {g : Nat} {d : Dvf} (h : Db w g d) : g < w.heap.size := (Array.getElem?_eq_some_iff.1 h.blk).1
theorem Db.keep {w w' : World} {g : Nat} {d : Dvf} (h : Db w g d) (k : Below w.heap.size w w') : Db w' g d := ⟨(k.block g h.lt).trans h.blk, h.tag⟩
theorem Db.turn {F : Nat → Prop} {w w' : World} {g : Nat} {d : Dvf} (h : Db w g d) (k : Turn F w w') (hg : ¬ F g) : Db w' g d := ⟨(k.block g h.lt hg).trans h.blk, h.tag⟩
theorem Db.at_ {w : World} {g : Nat} {d : Dvf} (h : Db w g d) :
    w.cell? ⟨g, 0, none⟩ = some (.int .i64 d.sl) ∧ w.cell? ⟨g, 1, none⟩ = some (.int .i64 d.rm) ∧ w.cell? ⟨g, 2, none⟩ = some d.bl ∧ w.cell? ⟨g, 3, none⟩ = some d.lg ∧ w.cell? ⟨g, 4, none⟩ = some (.int .i64 d.c) ∧
    w.cell? ⟨g, 37, none⟩ = some (.bool d.dn) ∧ w.cell? ⟨g, 38, none⟩ = some d.ch ∧ w.cell? ⟨g, 39, none⟩ = some d.ac ∧ w.cell? ⟨g, 40, none⟩ = some d.ve ∧ w.cell? ⟨g, 41, none⟩ = some d.st ∧ w.cell? ⟨g, 42, none⟩ = some d.ls ∧ w.cell? ⟨g, 43, none⟩ = some d.tc := by
  have hr : w.rangeAt g 0 ([.int .i64 d.sl, .int .i64 d.rm, d.bl, d.lg] ++ (rgc d.c d.tag ++ [.bool d.dn, d.ch, d.ac, d.ve, d.st, d.ls, d.tc])) := h.rng
  have h1 := rng_left hr
  have h2 := rng_right hr
  have h3 := rng_left h2
  have h4 := rng_right h2
  rw [rgc_len h.tag] at h4
  exact ⟨h1 0 _ rfl, h1 1 _ rfl, h1 2 _ rfl, h1 3 _ rfl, h3 0 _ rfl, h4 0 _ rfl, h4 1 _ rfl, h4 2 _ rfl, h4 3 _ rfl, h4 4 _ rfl, h4 5 _ rfl, h4 6 _ rfl⟩

set_option maxRecDepth 100000 in
set_option maxHeartbeats 800000 in
theorem time_any {w : World} {g : Nat} {d : Dvf} (h : Db w g d) {a : Option Addr} {n c : Nat} (hl : d.ls = .slice a n c) :
    Calls Tryz.prog 173 #[.pointer (some ⟨g, 0, none⟩)] w fun e w' => e = .returned (.int .i64 (n : Int)) ∧ w' = w := by
  obtain ⟨c0, c1, c2, c3, c4, c5, c6, c7, c8, c9, c10, c11⟩ := h.at_
  rw [hl] at c10
  clear h hl c0 c1 c2 c3 c4 c5 c6 c7 c8 c9 c11
  go_enter Tryz.func173, Tryz.ntmps173
  go_wp2_with fail
  go_ret
  exact ⟨rfl, rfl⟩
/-- which of a choice's four does an access of a kind -/
def toB {α : Type} (k : Int) (x0 x1 x2 x3 : α) : α := if k = 1 ∨ k = 4 ∨ k = 5 then x0 else if k = 2 ∨ k = 6 then x1 else if k = 3 ∨ k = 7 ∨ k = 8 then x2 else x3
set_option maxRecDepth 100000 in
set_option maxHeartbeats 1600000 in
theorem to_any (w : World) (k : Int) (x0 x1 x2 x3 : Value) :
    Calls Tryz.prog 128 #[.agg #[x0, x1, x2, x3], .int .i64 k] w fun e w' => e = .returned (toB k x0 x1 x2 x3) ∧ Below w.heap.size w w' := by
  have HB : Hid (∀ (x : Obj), Below w.heap.size w (w.alloc x)) := fun x => (Below.refl w.heap.size w).alloc (Nat.le_refl _) x
  by_cases h1 : k = 1
  · subst h1
    go_enter Tryz.func128, Tryz.ntmps128
    go_wp2_with fail
    go_ret
    exact ⟨rfl, HB.out _⟩
  by_cases h4 : k = 4
  · subst h4
    go_enter Tryz.func128, Tryz.ntmps128
    go_wp2_with fail
    go_ret
    exact ⟨rfl, HB.out _⟩
  by_cases h5 : k = 5
  · subst h5
    go_enter Tryz.func128, Tryz.ntmps128
    go_wp2_with fail
    go_ret
    exact ⟨rfl, HB.out _⟩
  by_cases h2 : k = 2
  · subst h2
    go_enter Tryz.func128, Tryz.ntmps128
    go_wp2_with fail
    go_ret
    exact ⟨rfl, HB.out _⟩
  by_cases h6 : k = 6
  · subst h6
    go_enter Tryz.func128, Tryz.ntmps128
    go_wp2_with fail
    go_ret
    exact ⟨rfl, HB.out _⟩
  by_cases h3 : k = 3
  · subst h3
    go_enter Tryz.func128, Tryz.ntmps128
    go_wp2_with fail
    go_ret
    exact ⟨rfl, HB.out _⟩
  by_cases h7 : k = 7
  · subst h7
    go_enter Tryz.func128, Tryz.ntmps128
    go_wp2_with fail
    go_ret
    exact ⟨rfl, HB.out _⟩
  by_cases h8 : k = 8
  · subst h8
    go_enter Tryz.func128, Tryz.ntmps128
    go_wp2_with fail
    go_ret
    exact ⟨rfl, HB.out _⟩
  have e1 : (k == 1) = false := by simpa using h1
  have e2 : (k == 2) = false := by simpa using h2
  have e3 : (k == 3) = false := by simpa using h3
  have e4 : (k == 4) = false := by simpa using h4
  have e5 : (k == 5) = false := by simpa using h5
  have e6 : (k == 6) = false := by simpa using h6
  have e7 : (k == 7) = false := by simpa using h7
  have e8 : (k == 8) = false := by simpa using h8
  have HE : Hid (toB k x0 x1 x2 x3 = x3) := by
    show toB k x0 x1 x2 x3 = x3
    unfold toB
    rw [if_neg (by omega), if_neg (by omega), if_neg (by omega)]
  go_enter Tryz.func128, Tryz.ntmps128
  go_wp2_with fail
  go_ret
  exact ⟨by rw [HE.out]; rfl, HB.out _⟩
end Go.Proofs.YtpmdjopojcgpeaaGreatDoor

/-
  A device's field stored; media.mayBe, (*Device).next.
-/
namespace Go.Proofs.YtpmdjopojcgpeaaGreatDoor
open Go.RowKit

theorem blk_set {w : World} {g : Nat} {cs : Array Value} {t : TypeId} {fz : Nat × Nat} (h : w.heap[g]? = some (.cells cs t fz)) (i : Nat) (v : Value) : (w.setCell ⟨g, i, none⟩ v).heap[g]? = some (.cells (cs.setIfInBounds i v) t fz) := by
  simp [World.setCell, Array.getElem?_modify, h]
theorem cells_hi (d : Dvf) : d.cells = ([.int .i64 d.sl, .int .i64 d.rm, d.bl, d.lg] ++ rgc d.c d.tag) ++ [.bool d.dn, d.ch, d.ac, d.ve, d.st, d.ls, d.tc] := by
  unfold Dvf.cells dvc
  simp
theorem set_hi {d : Dvf} (ht : d.tag.length = 32) (k : Nat) (v : Value) : d.cells.set (37 + k) v = ([.int .i64 d.sl, .int .i64 d.rm, d.bl, d.lg] ++ rgc d.c d.tag) ++ [.bool d.dn, d.ch, d.ac, d.ve, d.st, d.ls, d.tc].set k v := by
  rw [cells_hi]
  have hl : ([.int .i64 d.sl, .int .i64 d.rm, d.bl, d.lg] ++ rgc d.c d.tag).length = 37 := by rw [List.length_append, rgc_len ht]; rfl
  rw [List.set_append_right _ _ (by rw [hl]; omega), hl, Nat.add_sub_cancel_left]
theorem db_set {w : World} {g : Nat} {d d' : Dvf} (h : Db w g d) (i : Nat) (v : Value) (e : d.cells.set i v = d'.cells) (ht : d'.tag.length = 32) : Db (w.setCell ⟨g, i, none⟩ v) g d' :=
  ⟨by rw [blk_set h.blk i v, List.setIfInBounds_toArray, e], ht⟩
theorem Db.setCh {w : World} {g : Nat} {d : Dvf} (h : Db w g d) (v : Value) : Db (w.setCell ⟨g, 38, none⟩ v) g { d with ch := v } := db_set h 38 v ((set_hi h.tag 1 v).trans (cells_hi { d with ch := v }).symm) h.tag
theorem Db.setAc {w : World} {g : Nat} {d : Dvf} (h : Db w g d) (v : Value) : Db (w.setCell ⟨g, 39, none⟩ v) g { d with ac := v } := db_set h 39 v ((set_hi h.tag 2 v).trans (cells_hi { d with ac := v }).symm) h.tag
theorem Db.setLs {w : World} {g : Nat} {d : Dvf} (h : Db w g d) (v : Value) : Db (w.setCell ⟨g, 42, none⟩ v) g { d with ls := v } := db_set h 42 v ((set_hi h.tag 5 v).trans (cells_hi { d with ls := v }).symm) h.tag
theorem Db.setTc {w : World} {g : Nat} {d : Dvf} (h : Db w g d) (v : Value) : Db (w.setCell ⟨g, 43, none⟩ v) g { d with tc := v } := db_set h 43 v ((set_hi h.tag 6 v).trans (cells_hi { d with tc := v }).symm) h.tag
theorem Db.setDn {w : World} {g : Nat} {d : Dvf} (h : Db w g d) (b : Bool) : Db (w.setCell ⟨g, 37, none⟩ (.bool b)) g { d with dn := b } := db_set h 37 _ ((set_hi h.tag 0 _).trans (cells_hi { d with dn := b }).symm) h.tag
theorem Db.setLg {w : World} {g : Nat} {d : Dvf} (h : Db w g d) (v : Value) : Db (w.setCell ⟨g, 3, none⟩ v) g { d with lg := v } := db_set h 3 v rfl h.tag
theorem Db.frz {w : World} {g : Nat} {d : Dvf} (h : Db w g d) (i : Nat) : w.frozen? ⟨g, i, none⟩ = false := by
  simp [World.frozen?, h.blk]

/-! ### requests -/
def mayB (k : Int) (n : Nat) (c : Int) : Bool := if k = 2 then decide (n ≤ 1024) else if k = 10 then cntB c else true
theorem rq_at (w : World) (k : Int) (key : List Nat) (b : Value) (n c : Int) (tag : List Nat) (hk : key.length = 32) {g : Nat} (h : w.rangeAt g 0 (rqc k key b n c tag)) :
    w.cell? ⟨g, 0, none⟩ = some (.int .i64 k) ∧ w.rangeAt g 1 (bv key) ∧ w.cell? ⟨g, 33, none⟩ = some b ∧ w.cell? ⟨g, 34, none⟩ = some (.int .i64 n) ∧ w.cell? ⟨g, 35, none⟩ = some (.int .i64 c) ∧ w.rangeAt g 35 (rgc c tag) := by
  obtain ⟨h1, h2⟩ := rng_head h
  have h3 := rng_left h2
  have h4 := rng_right h2
  rw [bv_len, hk] at h4
  obtain ⟨h5, h6⟩ := rng_head h4
  obtain ⟨h7, h8⟩ := rng_head h6
  exact ⟨h1, h3, h5, h7, (rng_head h8).1, h8⟩
set_option maxRecDepth 100000 in
set_option maxHeartbeats 800000 in
theorem mayBe_any (w : World) (k : Int) (key : List Nat) (a : Option Addr) (m cp : Nat) (n c : Int) (tag : List Nat) (hk : key.length = 32) (hm : m ≤ 140737488351232) :
    Calls Tryz.prog 125 #[.agg (rqc k key (.slice a m cp) n c tag).toArray] w fun e w' => e = .returned (.bool (mayB k m c)) ∧ Below w.heap.size w w' := by
  have hr := rng_new w (rqc k key (.slice a m cp) n c tag) 164
  obtain ⟨c0, _, c33, _, c35, _⟩ := rq_at _ k key _ n c tag hk hr
  obtain ⟨L, hL⟩ : ∃ L, L = (rqc k key (.slice a m cp) n c tag).toArray := ⟨_, rfl⟩
  rw [← hL] at c0 c33 c35 ⊢
  have HB : Hid (∀ t, Below w.heap.size w (w.alloc (.cells L t))) := fun t => (Below.refl _ _).alloc (Nat.le_refl _) _
  clear hr hL
  by_cases h2 : k = 2
  · subst h2
    have HE : Hid (mayB 2 m c = decide ((m : Int) ≤ 1024)) := by
      show decide (m ≤ 1024) = _
      exact decide_eq_decide.2 (by omega)
    go_enter Tryz.func125, Tryz.ntmps125
    go_wp2_with fail
    go_ret
    exact ⟨by rw [HE.out]; rfl, HB.out _⟩
  have e2 : (k == 2) = false := by simpa using h2
  by_cases h10 : k = 10
  · subst h10
    go_enter Tryz.func125, Tryz.ntmps125
    go_wp2_with fail
    refine (count_any _ c).mono ?_
    rintro e w' ⟨rfl, rfl⟩
    go_wp2_with fail
    go_ret
    exact ⟨rfl, HB.out _⟩
  have e10 : (k == 10) = false := by simpa using h10
  have HE : Hid (mayB k m c = true) := by
    show mayB k m c = true
    unfold mayB
    rw [if_neg h2, if_neg h10]
  go_enter Tryz.func125, Tryz.ntmps125
  go_wp2_with fail
  go_ret
  exact ⟨by rw [HE.out]; rfl, HB.out _⟩
/-! ### the next choice -/
theorem elem28 : Tryz.prog.elem 47 = 152 := by kernel_rfl
theorem size27 (w : World) : (sizeOf 152).run Tryz.prog w = .ok 3 w := by
  have := i27
  cases hq : Tryz.prog.info? 152 with
  | none => simp [hq] at this
  | some i => simp [hq] at this; simp [sizeOf, typeInfo, hq, this]
/-- a list's block is not g -/
def Far (v : Value) (g : Nat) : Prop := ∀ (a : Option Addr) (n c : Nat) (p : Addr), v = .slice a n c → a = some p → p.block ≠ g
theorem Chs.turn {F : Nat → Prop} {w w' : World} {v : Value} {C : List Cho} (h : Chs w v C) (t : Turn F w w') (hF : ∀ (a : Option Addr) (n c : Nat) (p : Addr), v = .slice a n c → a = some p → ¬ F p.block) : Chs w' v C := by
  obtain ⟨a, b, off, c, e, h1, h2, r⟩ := h
  refine ⟨a, b, off, c, e, h1, fun i x hx j u hu => ?_, r⟩
  have hc := h2 i x hx j u hu
  have ha := h1 (by have := (List.getElem?_eq_some_iff.1 hx).1; omega)
  rw [t.cell (q := ⟨b, off + i * 3 + j, none⟩) (World.block_lt_of_cell? _ _ hc) (hF a _ c ⟨b, off, none⟩ e ha)]
  exact hc
/-- the choices behind the first -/
theorem slice28 {w : World} {v : Value} {x : Cho} {C : List Cho} (h : Chs w v (x :: C)) : ∃ v', (∀ u, (Instr.slice 47 v (some (.int .i64 1)) none none).run Tryz.prog u = .ok v' u) ∧ Chs w v' C ∧ (∃ a n c, v' = .slice a n c) ∧ ∀ g, Far v g → Far v' g := by
  obtain ⟨a, b, off, c, rfl, h1, h2, h3, h4, h5⟩ := h
  obtain rfl := h1 (by simp)
  have hl : (x :: C).length = C.length + 1 := rfl
  refine ⟨.slice (if c = 1 then some ⟨b, off, none⟩ else some ⟨b, off + 3, none⟩) C.length (c - 1), fun u => ?_, ⟨_, b, off + 3, c - 1, rfl, fun h0 => ?_, fun i y hy => ?_, by omega, fun e => ?_, by omega⟩, ⟨_, _, _, rfl⟩, fun g hf => ?_⟩
  · have := run_slice_l u 47 (some ⟨b, off, none⟩) (x :: C).length c (by rw [elem28]; exact Tryz.underlying47) (P := Tryz.prog) .i64 1 (by omega) (by omega)
    rw [this, elem28, size27]
    simp only [Result.andThen, sliced]
    by_cases e : c = 1
    · rw [if_pos e]
      simp [e]
    · rw [if_neg e]
      simp [e, Go.WideShapes.add_plain]
  · rw [if_neg (by omega)]
  · have := h2 (i + 1) y (by simpa using hy)
    rw [show off + (i + 1) * 3 = off + 3 + i * 3 by omega] at this
    exact this
  · split at e <;> cases e
  · intro a n cc p e ha
    injection e with e1 _ _
    have hb := hf _ _ _ _ rfl rfl
    rw [ha] at e1
    split at e1
    · have := Option.some.inj e1
      rw [← this]; exact hb
    · have := Option.some.inj e1
      rw [← this]; exact hb
/-- the first, and those behind it -/
def hdC : List Cho → Cho
  | [] => ⟨0, 0, 0⟩
  | x :: _ => x
def tlC : List Cho → List Cho
  | [] => []
  | _ :: C => C
set_option maxRecDepth 100000 in
set_option maxHeartbeats 1600000 in
theorem next_any {w : World} {g : Nat} {d : Dvf} {C : List Cho} (h : Db w g d) (hc : Chs w d.ch C) (hcg : Far d.ch g) :
    Calls Tryz.prog 126 #[.pointer (some ⟨g, 0, none⟩)] w fun e w' => e = .returned (.agg (hdC C).cells.toArray) ∧ (∃ v', Db w' g { d with ch := v' } ∧ Chs w' v' (tlC C) ∧ Far v' g) ∧ Turn (fun i => i = g) w w' := by
  obtain ⟨c0, c1, c2, c3, c4, c5, c6, c7, c8, c9, c10, c11⟩ := h.at_
  have HD : Hid (Db w g d ∧ Chs w d.ch C) := ⟨h, hc⟩
  have f6 := h.frz 38
  have hgl := h.lt
  have hgn : g ≠ w.heap.size := by omega
  clear h c0 c1 c2 c3 c4 c5 c7 c8 c9 c10 c11
  cases C with
  | nil =>
    obtain ⟨a, b, off, c, e, _⟩ := hc
    rw [e] at c6
    have HE : Hid (d.ch = .slice a 0 c) := e
    have HF : Hid (Far d.ch g) := hcg
    clear e hcg
    simp only [List.length_nil] at c6
    go_enter Tryz.func126, Tryz.ntmps126
    go_wp2_with fail
    exact bodyPost_ret (v := .agg #[.int .i64 0, .int .i64 0, .int .i64 0]) (by simp [results, Tryz.results126, go_sem]) rfl ⟨rfl, ⟨d.ch, HD.out.1.keep ((Below.refl _ _).alloc (Nat.le_refl _) _), HD.out.2.keep ((Below.refl _ _).alloc (Nat.le_refl _) _), HF.out⟩, Turn.alloc _ _⟩
  | cons x C =>
    obtain ⟨v', hs, hC', ⟨av', nv', cv', ev'⟩, hfar⟩ := slice28 hc
    have hF' := hfar g hcg
    obtain ⟨a, b, off, c, e, h1, h2, h3, h4, h5⟩ := hc
    obtain rfl := h1 (by simp)
    have hbg := hcg _ _ _ _ e rfl
    have HX : Hid (w.rangeAt b off [.int .i64 x.k, .int .i64 x.n, .int .i64 x.m]) := by
      have := h2 0 x rfl
      rw [Nat.zero_mul, Nat.add_zero] at this
      exact this
    rw [e] at c6 hs
    have hbl := rng_lt HX.out (by simp)
    have hbn : b ≠ w.heap.size := by omega
    have HE : Hid (Chs w v' C ∧ Far v' g) := ⟨hC', hF'⟩
    clear hfar hF'
    have hl : (x :: C).length = C.length + 1 := rfl
    rw [hl] at c6 hs
    obtain ⟨n, en⟩ : ∃ n, n = C.length := ⟨_, rfl⟩
    rw [← en] at c6 hs
    subst ev'
    clear en e h1 h2 h3 h4 hC' hcg hl
    obtain ⟨xk, xn, xm⟩ := x
    have r0 : w.cell? ⟨b, off, none⟩ = some (.int .i64 xk) := (rng_head HX.out).1
    have r1 : w.cell? ⟨b, off + 1, none⟩ = some (.int .i64 xn) := (rng_head (rng_head HX.out).2).1
    have r2 : w.cell? ⟨b, off + 2, none⟩ = some (.int .i64 xm) := (rng_head (rng_head (rng_head HX.out).2).2).1
    go_enter Tryz.func126, Tryz.ntmps126
    go_wp2_with fail
    refine bodyPost_ret (v := .agg #[.int .i64 xk, .int .i64 xn, .int .i64 xm]) (by simp [results, Tryz.results126, go_sem]) rfl ⟨rfl, ⟨.slice av' nv' cv', ?_, ?_, HE.out.2⟩, ?_⟩
    · exact ((HD.out.1.setCh _).keep ((Below.refl _ _).alloc (Nat.le_refl _) _)).keep ((Below.refl _ _).alloc (Nat.le_refl _) _)
    · exact (((HE.out.1.turn (Turn.setCell w ⟨g, 38, none⟩ _ (F := fun i => i = g) rfl) HE.out.2).keep ((Below.refl _ _).alloc (Nat.le_refl _) _)).keep ((Below.refl _ _).alloc (Nat.le_refl _) _))
    · exact ((Turn.setCell w ⟨g, 38, none⟩ _ (F := fun i => i = g) rfl).trans (Turn.alloc _ _ (F := fun i => i = g)) (fun i q => Or.inl q)).trans (Turn.alloc _ _ (F := fun i => i = g)) (fun i q => Or.inl q)
end Go.Proofs.YtpmdjopojcgpeaaGreatDoor

/-
  Requests, answers and stays built.
-/
namespace Go.Proofs.YtpmdjopojcgpeaaGreatDoor
open Go.RowKit

/-- cells laid over others -/
theorem fold_set (off : Nat) (xs : List Value) : ∀ (k : Nat) (cs : Array Value), off + k + xs.length ≤ cs.size →
    ((xs.zipIdx k).foldl (fun (cs : Array Value) (p : Value × Nat) => cs.setIfInBounds (off + p.2) p.1) cs).size = cs.size ∧
    ∀ i, ((xs.zipIdx k).foldl (fun (cs : Array Value) (p : Value × Nat) => cs.setIfInBounds (off + p.2) p.1) cs)[i]? = if off + k ≤ i ∧ i < off + k + xs.length then xs[i - (off + k)]? else cs[i]? := by
  induction xs with
  | nil => intro k cs _; exact ⟨rfl, fun i => by rw [if_neg (by simp)]; rfl⟩
  | cons x t ih =>
    intro k cs h
    simp only [List.length_cons] at h ⊢
    rw [List.zipIdx_cons, List.foldl_cons]
    obtain ⟨h1, h2⟩ := ih (k + 1) (cs.setIfInBounds (off + k) x) (by rw [Array.size_setIfInBounds]; omega)
    refine ⟨by rw [h1, Array.size_setIfInBounds], fun i => ?_⟩
    rw [h2 i]
    by_cases q : off + (k + 1) ≤ i ∧ i < off + (k + 1) + t.length
    · rw [if_pos q, if_pos (by omega), show i - (off + k) = (i - (off + (k + 1))) + 1 by omega, List.getElem?_cons_succ]
    · rw [if_neg q, Array.getElem?_setIfInBounds]
      by_cases q2 : off + k = i
      · rw [if_pos q2, if_pos (by omega), if_pos (by omega), q2, Nat.sub_self]
        rfl
      · rw [if_neg q2, if_neg (by omega)]
theorem fill_step {place : Nat → Option (Nat × Nat)} {cells : Array Value} {i off size : Nat} {v : Value} {rest : List (Nat × Value)} (hp : place i = some (off, size)) (hs : v.cells.size = size) (hl : off + size ≤ cells.size) :
    Instr.fill place cells ((i, v) :: rest) = Instr.fill place (v.cells.zipIdx.foldl (fun cs (c, j) => cs.setIfInBounds (off + j) c) cells) rest := by
  rw [Instr.fill, hp]
  simp only [hs]
  rw [if_neg (by simp; omega)]
/-- cells laid over others, as a list -/
theorem fold_list (off : Nat) (a x x' b : List Value) (ha : a.length = off) (hx : x'.length = x.length) :
    (x'.toArray.zipIdx.foldl (fun (cs : Array Value) (p : Value × Nat) => cs.setIfInBounds (off + p.2) p.1) (a ++ (x ++ b)).toArray) = (a ++ (x' ++ b)).toArray := by
  have key := fold_set off x' 0 (a ++ (x ++ b)).toArray (by simp; omega)
  have e : x'.toArray.zipIdx.foldl (fun (cs : Array Value) (p : Value × Nat) => cs.setIfInBounds (off + p.2) p.1) (a ++ (x ++ b)).toArray = (x'.zipIdx 0).foldl (fun (cs : Array Value) (p : Value × Nat) => cs.setIfInBounds (off + p.2) p.1) (a ++ (x ++ b)).toArray := by
    rw [← Array.foldl_toList]
    simp
  rw [e]
  apply Array.ext_getElem?
  intro i
  rw [key.2 i]
  simp only [List.getElem?_toArray, Nat.add_zero]
  by_cases h1 : off ≤ i ∧ i < off + x'.length
  · rw [if_pos h1, List.getElem?_append_right (by omega), List.getElem?_append_left (by omega), ha]
  · rw [if_neg h1]
    by_cases h2 : i < off
    · rw [List.getElem?_append_left (by omega), List.getElem?_append_left (by omega)]
    · rw [List.getElem?_append_right (by omega), List.getElem?_append_right (by omega), List.getElem?_append_right (by omega), List.getElem?_append_right (by omega), hx]
theorem setRow_heap' {w : World} {g : Nat} {cs cs' : Array Value} {t : TypeId} {fz : Nat × Nat} (h : w.heap[g]? = some (.cells cs t fz)) : (w.setRow g cs').heap[g]? = some (.cells cs' t fz) := setRow_heap w g _ cs' _ _ h
theorem below_setRow {B g : Nat} {w w' : World} (h : Below B w w') (hg : B ≤ g) (cs : Array Value) : Below B w (w'.setRow g cs) :=
  ⟨h.os, h.tape, h.output, by simp; exact h.size, fun i hi => (setRow_other w' g i cs (by omega)).trans (h.block i hi)⟩
theorem built77_fill (parts : List (Nat × Value)) : Tryz.prog.built 164 parts = Instr.fill (fun i => (#[(0, 1), (1, 32), (33, 1), (34, 1), (35, 33)] : Array (Nat × Nat))[i]?) (rqc 0 z32 nilS 0 0 z32).toArray parts := by kernel_rfl
theorem rq_size {k : Int} {key : List Nat} {b : Value} {n c : Int} {tag : List Nat} (h : key.length = 32) (h' : tag.length = 32) : (rqc k key b n c tag).toArray.size = 68 := by rw [List.size_toArray, rqc_len h h']
theorem f77_k {key tag : List Nat} {b : Value} {n c : Int} (h : key.length = 32) (h' : tag.length = 32) (k : Int) (rest : List (Nat × Value)) :
    Instr.fill (fun i => (#[(0, 1), (1, 32), (33, 1), (34, 1), (35, 33)] : Array (Nat × Nat))[i]?) (rqc 0 key b n c tag).toArray ((0, .int .i64 k) :: rest) = Instr.fill (fun i => (#[(0, 1), (1, 32), (33, 1), (34, 1), (35, 33)] : Array (Nat × Nat))[i]?) (rqc k key b n c tag).toArray rest := by
  rw [fill_step (off := 0) (size := 1) rfl rfl (by rw [rq_size h h']; omega)]
  have e := fold_list 0 [] [.int .i64 0] [.int .i64 k] (bv key ++ b :: .int .i64 n :: rgc c tag) rfl rfl
  rw [show (Value.int .i64 k).cells = ([.int .i64 k] : List Value).toArray from rfl]
  exact congrArg (fun z => Instr.fill _ z rest) e
theorem f77_key {key tag : List Nat} {k : Int} {b : Value} {n c : Int} (h : key.length = 32) (h' : tag.length = 32) (rest : List (Nat × Value)) :
    Instr.fill (fun i => (#[(0, 1), (1, 32), (33, 1), (34, 1), (35, 33)] : Array (Nat × Nat))[i]?) (rqc k z32 b n c tag).toArray ((1, .agg (bv key).toArray) :: rest) = Instr.fill (fun i => (#[(0, 1), (1, 32), (33, 1), (34, 1), (35, 33)] : Array (Nat × Nat))[i]?) (rqc k key b n c tag).toArray rest := by
  rw [fill_step (off := 1) (size := 32) rfl (by simp [Value.cells, bv_len, h]) (by rw [rq_size z32_len h']; omega)]
  have e := fold_list 1 [.int .i64 k] (bv z32) (bv key) (b :: .int .i64 n :: rgc c tag) rfl (by rw [bv_len, bv_len, h, z32_len])
  rw [show (Value.agg (bv key).toArray).cells = (bv key).toArray from rfl]
  exact congrArg (fun z => Instr.fill _ z rest) e
theorem f77_b {key tag : List Nat} {k : Int} {n c : Int} (h : key.length = 32) (h' : tag.length = 32) (a : Option Addr) (m cp : Nat) (rest : List (Nat × Value)) :
    Instr.fill (fun i => (#[(0, 1), (1, 32), (33, 1), (34, 1), (35, 33)] : Array (Nat × Nat))[i]?) (rqc k key nilS n c tag).toArray ((2, .slice a m cp) :: rest) = Instr.fill (fun i => (#[(0, 1), (1, 32), (33, 1), (34, 1), (35, 33)] : Array (Nat × Nat))[i]?) (rqc k key (.slice a m cp) n c tag).toArray rest := by
  rw [fill_step (off := 33) (size := 1) rfl rfl (by rw [rq_size h h']; omega)]
  have e := fold_list 33 (.int .i64 k :: bv key) [nilS] [.slice a m cp] (.int .i64 n :: rgc c tag) (by simp [bv_len, h]) rfl
  rw [show (Value.slice a m cp).cells = ([.slice a m cp] : List Value).toArray from rfl]
  exact congrArg (fun z => Instr.fill _ z rest) e
theorem f77_n {key tag : List Nat} {k : Int} {b : Value} {c : Int} (h : key.length = 32) (h' : tag.length = 32) (n : Int) (rest : List (Nat × Value)) :
    Instr.fill (fun i => (#[(0, 1), (1, 32), (33, 1), (34, 1), (35, 33)] : Array (Nat × Nat))[i]?) (rqc k key b 0 c tag).toArray ((3, .int .i64 n) :: rest) = Instr.fill (fun i => (#[(0, 1), (1, 32), (33, 1), (34, 1), (35, 33)] : Array (Nat × Nat))[i]?) (rqc k key b n c tag).toArray rest := by
  rw [fill_step (off := 34) (size := 1) rfl rfl (by rw [rq_size h h']; omega)]
  have e := fold_list 34 (.int .i64 k :: (bv key ++ [b])) [.int .i64 0] [.int .i64 n] (rgc c tag) (by simp [bv_len, h]) rfl
  rw [show (Value.int .i64 n).cells = ([.int .i64 n] : List Value).toArray from rfl]
  have e1 : ((.int .i64 k :: (bv key ++ [b])) ++ ([.int .i64 0] ++ rgc c tag) : List Value) = rqc k key b 0 c tag := by simp [rqc]
  have e2 : ((.int .i64 k :: (bv key ++ [b])) ++ ([.int .i64 n] ++ rgc c tag) : List Value) = rqc k key b n c tag := by simp [rqc]
  rw [e1, e2] at e
  exact congrArg (fun z => Instr.fill _ z rest) e
theorem f77_r {key tag : List Nat} {k : Int} {b : Value} {n : Int} (h : key.length = 32) (h' : tag.length = 32) (c : Int) (rest : List (Nat × Value)) :
    Instr.fill (fun i => (#[(0, 1), (1, 32), (33, 1), (34, 1), (35, 33)] : Array (Nat × Nat))[i]?) (rqc k key b n 0 z32).toArray ((4, .agg (rgc c tag).toArray) :: rest) = Instr.fill (fun i => (#[(0, 1), (1, 32), (33, 1), (34, 1), (35, 33)] : Array (Nat × Nat))[i]?) (rqc k key b n c tag).toArray rest := by
  rw [fill_step (off := 35) (size := 33) rfl (by simp [Value.cells, rgc_len h']) (by rw [rq_size h z32_len]; omega)]
  have e := fold_list 35 (.int .i64 k :: (bv key ++ [b, .int .i64 n])) (rgc 0 z32) (rgc c tag) [] (by simp [bv_len, h]) (by rw [rgc_len h', rgc_len z32_len])
  rw [show (Value.agg (rgc c tag).toArray).cells = (rgc c tag).toArray from rfl]
  have e1 : ((.int .i64 k :: (bv key ++ [b, .int .i64 n])) ++ (rgc 0 z32 ++ []) : List Value) = rqc k key b n 0 z32 := by simp [rqc]
  have e2 : ((.int .i64 k :: (bv key ++ [b, .int .i64 n])) ++ (rgc c tag ++ []) : List Value) = rqc k key b n c tag := by simp [rqc]
  rw [e1, e2] at e
  exact congrArg (fun z => Instr.fill _ z rest) e
theorem f77_nil (k : Int) (key : List Nat) (b : Value) (n c : Int) (tag : List Nat) : Instr.fill (fun i => (#[(0, 1), (1, 32), (33, 1), (34, 1), (35, 33)] : Array (Nat × Nat))[i]?) (rqc k key b n c tag).toArray [] = some (rqc k key b n c tag).toArray := rfl
theorem built77_k (k : Int) : Tryz.prog.built 164 [(0, .int .i64 k)] = some (rqc k z32 nilS 0 0 z32).toArray := by rw [built77_fill, f77_k z32_len z32_len]; rfl
theorem built77_key (k : Int) {key : List Nat} (h : key.length = 32) : Tryz.prog.built 164 [(0, .int .i64 k), (1, .agg (bv key).toArray)] = some (rqc k key nilS 0 0 z32).toArray := by rw [built77_fill, f77_k z32_len z32_len, f77_key h z32_len]; rfl
theorem built77_keyb (k : Int) {key : List Nat} (h : key.length = 32) (a : Option Addr) (m cp : Nat) : Tryz.prog.built 164 [(0, .int .i64 k), (1, .agg (bv key).toArray), (2, .slice a m cp)] = some (rqc k key (.slice a m cp) 0 0 z32).toArray := by rw [built77_fill, f77_k z32_len z32_len, f77_key h z32_len, f77_b h z32_len]; rfl
theorem built77_b (k : Int) (a : Option Addr) (m cp : Nat) : Tryz.prog.built 164 [(0, .int .i64 k), (2, .slice a m cp)] = some (rqc k z32 (.slice a m cp) 0 0 z32).toArray := by rw [built77_fill, f77_k z32_len z32_len, f77_b z32_len z32_len]; rfl
theorem built77_n (k n : Int) : Tryz.prog.built 164 [(0, .int .i64 k), (3, .int .i64 n)] = some (rqc k z32 nilS n 0 z32).toArray := by rw [built77_fill, f77_k z32_len z32_len, f77_n z32_len z32_len]; rfl
theorem built77_r (k c : Int) {tag : List Nat} (h : tag.length = 32) : Tryz.prog.built 164 [(0, .int .i64 k), (4, .agg (rgc c tag).toArray)] = some (rqc k z32 nilS 0 c tag).toArray := by rw [built77_fill, f77_k z32_len z32_len, f77_r z32_len h]; rfl
end Go.Proofs.YtpmdjopojcgpeaaGreatDoor
