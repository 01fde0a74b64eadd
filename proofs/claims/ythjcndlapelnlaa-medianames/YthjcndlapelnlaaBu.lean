/-
  Requests, answers and stays built.
-/
import Derived.Test.YthjcndlapelnlaaNx
namespace Go.Proofs.Ythjcndlapelnlaa
open Go.RowKit

/-- cells laid over others -/
theorem fold_set (off : Nat) (xs : List Value) : ∀ (k : Nat) (cs : Array Value), off + k + xs.length ≤ cs.size →
    ((xs.zipIdx k).foldl (fun (cs : Array Value) (p : Value × Nat) => cs.setIfInBounds (off + p.2) p.1) cs).size = cs.size ∧
    ∀ i, ((xs.zipIdx k).foldl (fun (cs : Array Value) (p : Value × Nat) => cs.setIfInBounds (off + p.2) p.1) cs)[i]? = if off + k ≤ i ∧ i < off + k + xs.length then xs[i - (off + k)]? else cs[i]? := by
  induction xs with
  | nil => intro k cs _; exact ⟨rfl, fun i => by rw [if_neg (by simp)]; rfl⟩
  | cons x t ih =>
    intro k cs h
    simp only [List.length_cons] at h ⊢
    rw [List.zipIdx_cons, List.foldl_cons]
    obtain ⟨h1, h2⟩ := ih (k + 1) (cs.setIfInBounds (off + k) x) (by rw [Array.size_setIfInBounds]; omega)
    refine ⟨by rw [h1, Array.size_setIfInBounds], fun i => ?_⟩
    rw [h2 i]
    by_cases q : off + (k + 1) ≤ i ∧ i < off + (k + 1) + t.length
    · rw [if_pos q, if_pos (by omega), show i - (off + k) = (i - (off + (k + 1))) + 1 by omega, List.getElem?_cons_succ]
    · rw [if_neg q, Array.getElem?_setIfInBounds]
      by_cases q2 : off + k = i
      · rw [if_pos q2, if_pos (by omega), if_pos (by omega), q2, Nat.sub_self]
        rfl
      · rw [if_neg q2, if_neg (by omega)]
theorem fill_step {place : Nat → Option (Nat × Nat)} {cells : Array Value} {i off size : Nat} {v : Value} {rest : List (Nat × Value)} (hp : place i = some (off, size)) (hs : v.cells.size = size) (hl : off + size ≤ cells.size) :
    Instr.fill place cells ((i, v) :: rest) = Instr.fill place (v.cells.zipIdx.foldl (fun cs (c, j) => cs.setIfInBounds (off + j) c) cells) rest := by
  rw [Instr.fill, hp]
  simp only [hs]
  rw [if_neg (by simp; omega)]
/-- cells laid over others, as a list -/
theorem fold_list (off : Nat) (a x x' b : List Value) (ha : a.length = off) (hx : x'.length = x.length) :
    (x'.toArray.zipIdx.foldl (fun (cs : Array Value) (p : Value × Nat) => cs.setIfInBounds (off + p.2) p.1) (a ++ (x ++ b)).toArray) = (a ++ (x' ++ b)).toArray := by
  have key := fold_set off x' 0 (a ++ (x ++ b)).toArray (by simp; omega)
  have e : x'.toArray.zipIdx.foldl (fun (cs : Array Value) (p : Value × Nat) => cs.setIfInBounds (off + p.2) p.1) (a ++ (x ++ b)).toArray = (x'.zipIdx 0).foldl (fun (cs : Array Value) (p : Value × Nat) => cs.setIfInBounds (off + p.2) p.1) (a ++ (x ++ b)).toArray := by
    rw [← Array.foldl_toList]
    simp
  rw [e]
  apply Array.ext_getElem?
  intro i
  rw [key.2 i]
  simp only [List.getElem?_toArray, Nat.add_zero]
  by_cases h1 : off ≤ i ∧ i < off + x'.length
  · rw [if_pos h1, List.getElem?_append_right (by omega), List.getElem?_append_left (by omega), ha]
  · rw [if_neg h1]
    by_cases h2 : i < off
    · rw [List.getElem?_append_left (by omega), List.getElem?_append_left (by omega)]
    · rw [List.getElem?_append_right (by omega), List.getElem?_append_right (by omega), List.getElem?_append_right (by omega), List.getElem?_append_right (by omega), hx]
theorem setRow_heap' {w : World} {g : Nat} {cs cs' : Array Value} {t : TypeId} {fz : Nat × Nat} (h : w.heap[g]? = some (.cells cs t fz)) : (w.setRow g cs').heap[g]? = some (.cells cs' t fz) := setRow_heap w g _ cs' _ _ h
theorem below_setRow {B g : Nat} {w w' : World} (h : Below B w w') (hg : B ≤ g) (cs : Array Value) : Below B w (w'.setRow g cs) :=
  ⟨h.os, h.tape, h.output, by simp; exact h.size, fun i hi => (setRow_other w' g i cs (by omega)).trans (h.block i hi)⟩
theorem built77_fill (parts : List (Nat × Value)) : Try.prog.built 77 parts = Instr.fill (fun i => (#[(0, 1), (1, 32), (33, 1), (34, 1), (35, 33)] : Array (Nat × Nat))[i]?) (rqc 0 z32 nilS 0 0 z32).toArray parts := by kernel_rfl
theorem rq_size {k : Int} {key : List Nat} {b : Value} {n c : Int} {tag : List Nat} (h : key.length = 32) (h' : tag.length = 32) : (rqc k key b n c tag).toArray.size = 68 := by rw [List.size_toArray, rqc_len h h']
theorem f77_k {key tag : List Nat} {b : Value} {n c : Int} (h : key.length = 32) (h' : tag.length = 32) (k : Int) (rest : List (Nat × Value)) :
    Instr.fill (fun i => (#[(0, 1), (1, 32), (33, 1), (34, 1), (35, 33)] : Array (Nat × Nat))[i]?) (rqc 0 key b n c tag).toArray ((0, .int .i64 k) :: rest) = Instr.fill (fun i => (#[(0, 1), (1, 32), (33, 1), (34, 1), (35, 33)] : Array (Nat × Nat))[i]?) (rqc k key b n c tag).toArray rest := by
  rw [fill_step (off := 0) (size := 1) rfl rfl (by rw [rq_size h h']; omega)]
  have e := fold_list 0 [] [.int .i64 0] [.int .i64 k] (bv key ++ b :: .int .i64 n :: rgc c tag) rfl rfl
  rw [show (Value.int .i64 k).cells = ([.int .i64 k] : List Value).toArray from rfl]
  exact congrArg (fun z => Instr.fill _ z rest) e
theorem f77_key {key tag : List Nat} {k : Int} {b : Value} {n c : Int} (h : key.length = 32) (h' : tag.length = 32) (rest : List (Nat × Value)) :
    Instr.fill (fun i => (#[(0, 1), (1, 32), (33, 1), (34, 1), (35, 33)] : Array (Nat × Nat))[i]?) (rqc k z32 b n c tag).toArray ((1, .agg (bv key).toArray) :: rest) = Instr.fill (fun i => (#[(0, 1), (1, 32), (33, 1), (34, 1), (35, 33)] : Array (Nat × Nat))[i]?) (rqc k key b n c tag).toArray rest := by
  rw [fill_step (off := 1) (size := 32) rfl (by simp [Value.cells, bv_len, h]) (by rw [rq_size z32_len h']; omega)]
  have e := fold_list 1 [.int .i64 k] (bv z32) (bv key) (b :: .int .i64 n :: rgc c tag) rfl (by rw [bv_len, bv_len, h, z32_len])
  rw [show (Value.agg (bv key).toArray).cells = (bv key).toArray from rfl]
  exact congrArg (fun z => Instr.fill _ z rest) e
theorem f77_b {key tag : List Nat} {k : Int} {n c : Int} (h : key.length = 32) (h' : tag.length = 32) (a : Option Addr) (m cp : Nat) (rest : List (Nat × Value)) :
    Instr.fill (fun i => (#[(0, 1), (1, 32), (33, 1), (34, 1), (35, 33)] : Array (Nat × Nat))[i]?) (rqc k key nilS n c tag).toArray ((2, .slice a m cp) :: rest) = Instr.fill (fun i => (#[(0, 1), (1, 32), (33, 1), (34, 1), (35, 33)] : Array (Nat × Nat))[i]?) (rqc k key (.slice a m cp) n c tag).toArray rest := by
  rw [fill_step (off := 33) (size := 1) rfl rfl (by rw [rq_size h h']; omega)]
  have e := fold_list 33 (.int .i64 k :: bv key) [nilS] [.slice a m cp] (.int .i64 n :: rgc c tag) (by simp [bv_len, h]) rfl
  rw [show (Value.slice a m cp).cells = ([.slice a m cp] : List Value).toArray from rfl]
  exact congrArg (fun z => Instr.fill _ z rest) e
theorem f77_n {key tag : List Nat} {k : Int} {b : Value} {c : Int} (h : key.length = 32) (h' : tag.length = 32) (n : Int) (rest : List (Nat × Value)) :
    Instr.fill (fun i => (#[(0, 1), (1, 32), (33, 1), (34, 1), (35, 33)] : Array (Nat × Nat))[i]?) (rqc k key b 0 c tag).toArray ((3, .int .i64 n) :: rest) = Instr.fill (fun i => (#[(0, 1), (1, 32), (33, 1), (34, 1), (35, 33)] : Array (Nat × Nat))[i]?) (rqc k key b n c tag).toArray rest := by
  rw [fill_step (off := 34) (size := 1) rfl rfl (by rw [rq_size h h']; omega)]
  have e := fold_list 34 (.int .i64 k :: (bv key ++ [b])) [.int .i64 0] [.int .i64 n] (rgc c tag) (by simp [bv_len, h]) rfl
  rw [show (Value.int .i64 n).cells = ([.int .i64 n] : List Value).toArray from rfl]
  have e1 : ((.int .i64 k :: (bv key ++ [b])) ++ ([.int .i64 0] ++ rgc c tag) : List Value) = rqc k key b 0 c tag := by simp [rqc]
  have e2 : ((.int .i64 k :: (bv key ++ [b])) ++ ([.int .i64 n] ++ rgc c tag) : List Value) = rqc k key b n c tag := by simp [rqc]
  rw [e1, e2] at e
  exact congrArg (fun z => Instr.fill _ z rest) e
theorem f77_r {key tag : List Nat} {k : Int} {b : Value} {n : Int} (h : key.length = 32) (h' : tag.length = 32) (c : Int) (rest : List (Nat × Value)) :
    Instr.fill (fun i => (#[(0, 1), (1, 32), (33, 1), (34, 1), (35, 33)] : Array (Nat × Nat))[i]?) (rqc k key b n 0 z32).toArray ((4, .agg (rgc c tag).toArray) :: rest) = Instr.fill (fun i => (#[(0, 1), (1, 32), (33, 1), (34, 1), (35, 33)] : Array (Nat × Nat))[i]?) (rqc k key b n c tag).toArray rest := by
  rw [fill_step (off := 35) (size := 33) rfl (by simp [Value.cells, rgc_len h']) (by rw [rq_size h z32_len]; omega)]
  have e := fold_list 35 (.int .i64 k :: (bv key ++ [b, .int .i64 n])) (rgc 0 z32) (rgc c tag) [] (by simp [bv_len, h]) (by rw [rgc_len h', rgc_len z32_len])
  rw [show (Value.agg (rgc c tag).toArray).cells = (rgc c tag).toArray from rfl]
  have e1 : ((.int .i64 k :: (bv key ++ [b, .int .i64 n])) ++ (rgc 0 z32 ++ []) : List Value) = rqc k key b n 0 z32 := by simp [rqc]
  have e2 : ((.int .i64 k :: (bv key ++ [b, .int .i64 n])) ++ (rgc c tag ++ []) : List Value) = rqc k key b n c tag := by simp [rqc]
  rw [e1, e2] at e
  exact congrArg (fun z => Instr.fill _ z rest) e
theorem f77_nil (k : Int) (key : List Nat) (b : Value) (n c : Int) (tag : List Nat) : Instr.fill (fun i => (#[(0, 1), (1, 32), (33, 1), (34, 1), (35, 33)] : Array (Nat × Nat))[i]?) (rqc k key b n c tag).toArray [] = some (rqc k key b n c tag).toArray := rfl
theorem built77_k (k : Int) : Try.prog.built 77 [(0, .int .i64 k)] = some (rqc k z32 nilS 0 0 z32).toArray := by rw [built77_fill, f77_k z32_len z32_len]; rfl
theorem built77_key (k : Int) {key : List Nat} (h : key.length = 32) : Try.prog.built 77 [(0, .int .i64 k), (1, .agg (bv key).toArray)] = some (rqc k key nilS 0 0 z32).toArray := by rw [built77_fill, f77_k z32_len z32_len, f77_key h z32_len]; rfl
theorem built77_keyb (k : Int) {key : List Nat} (h : key.length = 32) (a : Option Addr) (m cp : Nat) : Try.prog.built 77 [(0, .int .i64 k), (1, .agg (bv key).toArray), (2, .slice a m cp)] = some (rqc k key (.slice a m cp) 0 0 z32).toArray := by rw [built77_fill, f77_k z32_len z32_len, f77_key h z32_len, f77_b h z32_len]; rfl
theorem built77_b (k : Int) (a : Option Addr) (m cp : Nat) : Try.prog.built 77 [(0, .int .i64 k), (2, .slice a m cp)] = some (rqc k z32 (.slice a m cp) 0 0 z32).toArray := by rw [built77_fill, f77_k z32_len z32_len, f77_b z32_len z32_len]; rfl
theorem built77_n (k n : Int) : Try.prog.built 77 [(0, .int .i64 k), (3, .int .i64 n)] = some (rqc k z32 nilS n 0 z32).toArray := by rw [built77_fill, f77_k z32_len z32_len, f77_n z32_len z32_len]; rfl
theorem built77_r (k c : Int) {tag : List Nat} (h : tag.length = 32) : Try.prog.built 77 [(0, .int .i64 k), (4, .agg (rgc c tag).toArray)] = some (rqc k z32 nilS 0 c tag).toArray := by rw [built77_fill, f77_k z32_len z32_len, f77_r z32_len h]; rfl
end Go.Proofs.Ythjcndlapelnlaa
