/-
  cairnref05: number; what read answers.
-/
import Derived.Test.YtlpmcdnhnhgmpaaOg
namespace Go.Proofs.Ytlpmcdnhnhgmpaa
open Go.RowKit

/-- as far as the reference counts -/
def sat (s : List Nat) : Nat := min (num s) 1048577
theorem sat_take {s : List Nat} {i : Nat} (h : i < s.length) : sat (s.take (i + 1)) = min (sat (s.take i) * 256 + gd s i) 1048577 := by
  unfold sat
  rw [num_take h]
  omega

set_option maxRecDepth 100000 in
set_option maxHeartbeats 1600000 in
theorem rnum_any (w : World) (a : Option Addr) (b off c : Nat) (s : List Nat) (hv : Vw w a b off s) :
    Calls Try.prog 49 #[.slice a s.length c] w fun e w' => e = .returned (.int .i64 (sat s)) ∧ w' = w := by
  have HV : Hid (Vw w a b off s) := hv
  obtain ⟨n, en⟩ : ∃ n, n = s.length := ⟨_, rfl⟩
  have HN : Hid (n = s.length) := en
  have hn := hv.len
  rw [← en] at hn ⊢
  clear hv en
  go_enter Try.func49, Try.ntmps49
  go_wp2_with fail
  go_loopg [3, 8] n (fun gg u k wr => ∃ (i : Nat), i ≤ n ∧ gg = n - i ∧ u = .int .i64 (sat (s.take i)) ∧ k = .int .i64 i ∧ wr = w)
  case atStart => exact ⟨0, Nat.zero_le _, rfl, rfl, rfl, rfl⟩
  case round =>
    obtain ⟨i, hi, rfl, rfl, rfl, ewr⟩ := hrel
    subst ewr
    by_cases h0 : i < n
    · have i1 : (i : Int) < (n : Int) := by omega
      obtain rfl := HV.out.at_ (by have := HN.out; omega)
      have c0 := HV.out.cell i (by have := HN.out; omega)
      have hb := (vw_ok HV.out).2
      have hx := gd_lt hb i
      have e2 : sat (s.take (i + 1)) = min (sat (s.take i) * 256 + gd s i) 1048577 := sat_take (by have := HN.out; omega)
      have hs : sat (s.take i) ≤ 1048577 := Nat.min_le_right _ _
      have HE : Hid (sat (s.take (i + 1)) = min (sat (s.take i) * 256 + gd s i) 1048577) := e2
      clear e2 hb
      generalize sat (s.take i) = m at *
      generalize gd s i = x at *
      by_cases hm : m * 256 + x ≤ 1048577
      · have i3 : (m : Int) * 256 + x ≤ 1048577 := by omega
        have HE2 : Hid (min (m * 256 + x) 1048577 = m * 256 + x) := Nat.min_eq_left (by omega)
        go_wp2_with fail
        go_roundg (n - (i + 1))
        case measure => omega
        case rel => exact ⟨i + 1, h0, rfl, by rw [HE.out, HE2.out]; go_num, by go_num, rfl⟩
      · have i2 : ¬ (m : Int) * 256 + x ≤ 1048577 := by omega
        have HE2 : Hid (min (m * 256 + x) 1048577 = 1048577) := Nat.min_eq_right (by omega)
        go_wp2_with fail
        go_roundg (n - (i + 1))
        case measure => omega
        case rel => exact ⟨i + 1, h0, rfl, by rw [HE.out, HE2.out]; go_num, by go_num, rfl⟩
    · have e0 : i = n := by omega
      have e2 : sat (s.take i) = sat s := by rw [List.take_of_length_le (by have := HN.out; omega)]
      have HE : Hid (sat (s.take i) = sat s) := e2
      have i1 : ¬ (i : Int) < (n : Int) := by omega
      clear e2
      go_wp2_with fail
      go_ret
      exact ⟨by rw [← HE.out, e0]; rfl, rfl⟩

/-! ### what read answers -/
abbrev B6 (w : World) (g : Nat) (x0 x1 x2 x3 x4 x5 : Value) : Prop := w.heap[g]? = some (.cells #[x0, x1, x2, x3, x4, x5] 75 (0, 0))
theorem info75s : (Try.prog.info? 75).map (·.size) = some 6 := by kernel_rfl
theorem B6.cell {w : World} {g : Nat} {x0 x1 x2 x3 x4 x5 : Value} (h : B6 w g x0 x1 x2 x3 x4 x5) (j : Nat) : w.cell? ⟨g, j, none⟩ = #[x0, x1, x2, x3, x4, x5][j]? := cell_of_row _ _ _ _ _ _ h
theorem B6.frozen {w : World} {g : Nat} {x0 x1 x2 x3 x4 x5 : Value} (h : B6 w g x0 x1 x2 x3 x4 x5) (j : Nat) : w.frozen? ⟨g, j, none⟩ = false := by
  have r : w.rowIs g 75 6 (fun i => (#[x0, x1, x2, x3, x4, x5] : Array Value).getD i x0) := ⟨_, h, rfl, fun i hi => by
    show _ = some ((#[x0, x1, x2, x3, x4, x5] : Array Value).getD i x0)
    rw [Array.getD_eq_getD_getElem?, Array.getElem?_eq_getElem (by simpa using hi)]
    rfl⟩
  exact r.frozen j
theorem B6.lt {w : World} {g : Nat} {x0 x1 x2 x3 x4 x5 : Value} (h : B6 w g x0 x1 x2 x3 x4 x5) : g < w.heap.size := (Array.getElem?_eq_some_iff.1 h).1
theorem B6.keep {w w' : World} {g : Nat} {x0 x1 x2 x3 x4 x5 : Value} (h : B6 w g x0 x1 x2 x3 x4 x5) (k : w'.heap[g]? = w.heap[g]?) : B6 w' g x0 x1 x2 x3 x4 x5 := k.trans h
theorem B6.var {w : World} {g : Nat} {x0 x1 x2 x3 x4 x5 : Value} (h : B6 w g x0 x1 x2 x3 x4 x5) : (loadVar 75 ⟨g, 0, none⟩).run Try.prog w = .ok (.agg #[x0, x1, x2, x3, x4, x5]) w :=
  run_loadVar_mid w g 0 75 [x0, x1, x2, x3, x4, x5] _ (fun j v hj => by
    rw [Nat.zero_add, h.cell j]
    simpa using hj) Try.underlying75 rfl info75s
abbrev set6 (w : World) (g : Nat) (y0 y1 y2 y3 y4 y5 : Value) : World := (((((w.setCell ⟨g, 0, none⟩ y0).setCell ⟨g, 1, none⟩ y1).setCell ⟨g, 2, none⟩ y2).setCell ⟨g, 3, none⟩ y3).setCell ⟨g, 4, none⟩ y4).setCell ⟨g, 5, none⟩ y5
theorem B6.set {w : World} {g : Nat} {x0 x1 x2 x3 x4 x5 y0 y1 y2 y3 y4 y5 : Value} (h : B6 w g x0 x1 x2 x3 x4 x5) : B6 (set6 w g y0 y1 y2 y3 y4 y5) g y0 y1 y2 y3 y4 y5 := by
  have hl := h.lt
  simp only [B6, set6, World.setCell, Array.getElem?_modify, if_true] at h ⊢
  rw [h]
  rfl
theorem set6_turn (w : World) (g : Nat) (y0 y1 y2 y3 y4 y5 : Value) : Turn (fun i => i = g) w (set6 w g y0 y1 y2 y3 y4 y5) :=
  (((((Turn.setCell (F := fun i => i = g) w ⟨g, 0, none⟩ y0 rfl).trans (Turn.setCell (F := fun i => i = g) _ ⟨g, 1, none⟩ y1 rfl) (fun _ q => Or.inl q)).trans (Turn.setCell (F := fun i => i = g) _ ⟨g, 2, none⟩ y2 rfl) (fun _ q => Or.inl q)).trans (Turn.setCell (F := fun i => i = g) _ ⟨g, 3, none⟩ y3 rfl) (fun _ q => Or.inl q)).trans (Turn.setCell (F := fun i => i = g) _ ⟨g, 4, none⟩ y4 rfl) (fun _ q => Or.inl q)).trans (Turn.setCell (F := fun i => i = g) _ ⟨g, 5, none⟩ y5 rfl) (fun _ q => Or.inl q)
theorem set6_size (w : World) (g : Nat) (y0 y1 y2 y3 y4 y5 : Value) : (set6 w g y0 y1 y2 y3 y4 y5).heap.size = w.heap.size := by simp
abbrev rdBad (p c : Nat) : Value := .agg #[.bool false, .slice none 0 0, .slice none 0 0, .int .i64 0, .int .i64 (p : Nat), .int .i64 (c : Nat)]
/-- WHAT READING AN ITEM COMES TO, by the reference -/
def RPost (s : List Nat) (d p e : Nat) (w : World) (r : Ending) (w' : World) : Prop :=
  Below w.heap.size w w' ∧ match rd s d p e with
    | .ok x z => ∃ vb vi, r = .returned (.agg #[.bool x.l, vb, vi, .int .i64 (z : Nat), .int .i64 0, .int .i64 0]) ∧ Og 34 [] w' w.heap.size w'.heap.size x vb vi
    | .bad q c => r = .returned (rdBad q c)
/-- the variable of the answer, as it is made -/
theorem res75 {fn : Func} (h : fn.results = #[.cell 8 75]) (tmps : Array Value) {w : World} {g : Nat} {x0 x1 x2 x3 x4 x5 : Value} (hp : tmps.getD 8 undef = .pointer (some ⟨g, 0, none⟩)) (hb : B6 w g x0 x1 x2 x3 x4 x5) : (results fn tmps).run Try.prog w = .ok (.agg #[x0, x1, x2, x3, x4, x5]) w := res1 h tmps w g _ hp hb.var
theorem RPost.bad {s : List Nat} {d p e q c : Nat} {w : World} (hr : rd s d p e = .bad q c) : RPost s d p e w (.returned (rdBad q c)) (w.alloc (.cells #[.bool false, .slice none 0 0, .slice none 0 0, .int .i64 0, .int .i64 (q : Nat), .int .i64 (c : Nat)] 75)) := by
  unfold RPost
  rw [hr]
  exact ⟨below_alloc _ _, rfl⟩
end Go.Proofs.Ytlpmcdnhnhgmpaa
