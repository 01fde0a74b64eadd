/-
  cairnlaw05.awake.
-/
import Derived.Test.YtlpmcdnhnhgmpaaEnc
import Derived.Test.YtlpmcdnhnhgmpaaDc
import Derived.Lib.SlBytesConst
namespace Go.Proofs.Ytlpmcdnhnhgmpaa
open Go.RowKit

def catI : It := .mk false [99, 97, 116] []
def dogI : It := .mk false [100, 111, 103] []
def cdI : It := .mk true [] [catI, dogI]
def cdB : List Nat := [200, 131, 99, 97, 116, 131, 100, 111, 103]
theorem cd_form : form cdI = cdB := by rfl
theorem cd_encE : encE cdI = 0 := by rfl
theorem cd_enc : enc cdI = cdB := by rfl
theorem cd_dec : dec cdB = .ok cdI := by rfl
theorem cd_decX : decX cdB = cdI := by rfl
theorem cd_decP : decP cdB = 0 := by rfl
theorem cd_decE : decE cdB = 0 := by rfl

theorem vw_row {w : World} {g : Nat} {s : List Nat} {fr : Nat × Nat} (h : w.heap[g]? = some (.cells (bv s).toArray 5 fr)) (hs : ∀ x ∈ s, x < 256) (hl : s.length ≤ 1048576) : Vw w (some ⟨g, 0, none⟩) g 0 s :=
  ⟨fun _ => rfl, fun i hi => by
    rw [Nat.zero_add, cell_of_row _ _ _ _ 5 _ h]
    simpa using bv_at hi, fun i _ => by have := gd_lt hs i; omega, by omega⟩
theorem vb_row {w : World} {g : Nat} {s : List Nat} {fr : Nat × Nat} (h : w.heap[g]? = some (.cells (bv s).toArray 5 fr)) (hs : ∀ x ∈ s, x < 256) (hl : s.length ≤ 1048576) : Vb w (.slice (some ⟨g, 0, none⟩) s.length s.length) s :=
  ⟨_, _, _, _, rfl, vw_row h hs hl, Nat.le_refl _, (fun h => by cases h), by omega⟩
theorem vb_nil (w : World) : Vb w (.slice none 0 0) [] := vb_of_own (B := 0) (n := 0) ⟨rfl, Or.inl ⟨rfl, rfl⟩⟩ rfl (by simp) (by omega)
theorem lies_str {w : World} {v : Value} {s : List Nat} (h : Vb w v s) : Lies Vb w (.mk false s []) v (.slice none 0 0) := Its.shut (xs := []) (blk := 0) (off := 0) ⟨fun h => by simp at h, by simp, fun i x hx => by simp at hx⟩ h

/-- the law's list of two -/
abbrev cdW (w : World) : World := ((w.alloc (.cells #[.int .u8 99, .int .u8 97, .int .u8 116] 5 (3, 4))).alloc (.cells #[.int .u8 100, .int .u8 111, .int .u8 103] 5 (3, 4))).alloc (.cells #[.bool false, .slice (some ⟨w.heap.size, 0, none⟩) 3 3, .slice none 0 0, .bool false, .slice (some ⟨w.heap.size + 1, 0, none⟩) 3 3, .slice none 0 0] 25)
theorem cdW_below (w : World) : Below w.heap.size w (cdW w) := ch (ch (below_alloc _ _) (below_alloc _ _)) (below_alloc _ _)
theorem cdW_lies (w : World) : Lies Vb (cdW w) cdI (.slice none 0 0) (.slice (some ⟨w.heap.size + 1 + 1, 0, none⟩) 2 2) := by
  have g0 : (cdW w).heap[w.heap.size]? = some (.cells (bv [99, 97, 116]).toArray 5 (3, 4)) := by
    rw [heap_alloc_old _ _ (by simp; omega), heap_alloc_old _ _ (by simp)]
    exact heap_alloc_new _ _
  have g1 : (cdW w).heap[w.heap.size + 1]? = some (.cells (bv [100, 111, 103]).toArray 5 (3, 4)) := by
    rw [heap_alloc_old _ _ (by simp)]
    have := heap_alloc_new (w.alloc (.cells #[.int .u8 99, .int .u8 97, .int .u8 116] 5 (3, 4))) (.cells #[.int .u8 100, .int .u8 111, .int .u8 103] 5 (3, 4))
    simp only [World.size_alloc] at this
    exact this
  have g2 : (cdW w).heap[w.heap.size + 1 + 1]? = some (.cells #[.bool false, .slice (some ⟨w.heap.size, 0, none⟩) 3 3, .slice none 0 0, .bool false, .slice (some ⟨w.heap.size + 1, 0, none⟩) 3 3, .slice none 0 0] 25 (0, 0)) := by
    have := heap_alloc_new ((w.alloc (.cells #[.int .u8 99, .int .u8 97, .int .u8 116] 5 (3, 4))).alloc (.cells #[.int .u8 100, .int .u8 111, .int .u8 103] 5 (3, 4))) (.cells #[.bool false, .slice (some ⟨w.heap.size, 0, none⟩) 3 3, .slice none 0 0, .bool false, .slice (some ⟨w.heap.size + 1, 0, none⟩) 3 3, .slice none 0 0] 25)
    simp only [World.size_alloc] at this
    exact this
  have c : ∀ j, (cdW w).cell? ⟨w.heap.size + 1 + 1, j, none⟩ = #[.bool false, .slice (some ⟨w.heap.size, 0, none⟩) 3 3, .slice none 0 0, .bool false, .slice (some ⟨w.heap.size + 1, 0, none⟩) 3 3, .slice none 0 0][j]? := fun j => cell_of_row _ _ _ _ _ _ g2
  refine Its.shut (xs := [catI, dogI]) (blk := w.heap.size + 1 + 1) (off := 0) ⟨fun _ => rfl, by simp, fun i x hx => ?_⟩ (vb_nil _)
  match i, hx with
  | 0, hx =>
    simp at hx
    subst hx
    exact ⟨_, _, _, _, _, _, c 0, c 1, c 2, lies_str (vb_row (s := [99, 97, 116]) g0 (by decide) (by decide))⟩
  | 1, hx =>
    simp at hx
    subst hx
    exact ⟨_, _, _, _, _, _, c 3, c 4, c 5, lies_str (vb_row (s := [100, 111, 103]) g1 (by decide) (by decide))⟩
  | i + 2, hx => simp at hx
theorem str_lst (s : List Nat) : str s.length (fun i => ((gd s i : Nat) : Int)) = strOfNums (s.map (fun x : Nat => (x : Int))) := by
  unfold str
  congr 1
  apply List.ext_getElem?
  intro i
  by_cases h : i < s.length
  · rw [List.getElem?_map, List.getElem?_range h, List.getElem?_map, List.getElem?_eq_getElem h, gd_get h]
    rfl
  · rw [List.getElem?_eq_none (by simp; omega), List.getElem?_eq_none (by simp; omega)]

set_option maxRecDepth 100000 in
set_option maxHeartbeats 1600000 in
theorem awake_any (w : World) : Calls Try.prog 12 #[] w fun e w' => e = .returned (.bool true) ∧ Below w.heap.size w w' := by
  have cv1 : ∀ W : World, (convert 22 22 (.slice (some ⟨W.heap.size, 0, none⟩) 3 3)).run Try.prog (W.alloc (.cells #[.int .u8 99, .int .u8 97, .int .u8 116] 5)) = .ok (.slice (some ⟨W.heap.size, 0, none⟩) 3 3) (W.alloc (.cells #[.int .u8 99, .int .u8 97, .int .u8 116] 5 (3, 4))) := fun W => Lib.run_convert_bytes_const (P := Try.prog) W 22 5 #[.int .u8 99, .int .u8 97, .int .u8 116] 3 3 Try.underlying22 Try.underlying5
  have cv2 : ∀ W : World, (convert 22 22 (.slice (some ⟨W.heap.size, 0, none⟩) 3 3)).run Try.prog (W.alloc (.cells #[.int .u8 100, .int .u8 111, .int .u8 103] 5)) = .ok (.slice (some ⟨W.heap.size, 0, none⟩) 3 3) (W.alloc (.cells #[.int .u8 100, .int .u8 111, .int .u8 103] 5 (3, 4))) := fun W => Lib.run_convert_bytes_const (P := Try.prog) W 22 5 #[.int .u8 100, .int .u8 111, .int .u8 103] 3 3 Try.underlying22 Try.underlying5
  have cv2a := cv2 (w.alloc (.cells #[.int .u8 99, .int .u8 97, .int .u8 116] 5 (3, 4)))
  simp only [World.size_alloc] at cv2a
  have cv1a := cv1 w
  clear cv1 cv2
  go_enter Try.func12, Try.ntmps12
  go_wp2_with fail
  have K1 := encode_any cdI (cdW w) _ _ (cdW_lies w)
  have HB1 : Hid (Below w.heap.size w (cdW w)) := cdW_below w
  rw [cd_encE, cd_enc] at K1
  refine K1.mono ?_
  rintro e w1 ⟨v, rfl, hs1, hb1⟩
  obtain ⟨av, gv, cv, rfl, -, vv, hgl⟩ := hs1.view
  have HB2 : Hid (Below w.heap.size w w1 ∧ Vw w1 av gv 0 cdB) := ⟨ch HB1.out hb1, vv⟩
  have hv2 : Vw (w1.alloc (.cells #[.int .u8 200, .int .u8 131, .int .u8 99, .int .u8 97, .int .u8 116, .int .u8 131, .int .u8 100, .int .u8 111, .int .u8 103] 5)) (some ⟨w1.heap.size, 0, none⟩) w1.heap.size 0 cdB := vw_row (s := cdB) (fr := (0, 0)) (heap_alloc_new w1 _) (by decide) (by decide)
  have K2 := decode_any _ _ _ _ 9 cdB hv2 (by decide) (by decide)
  clear hs1 hb1 vv hgl hv2 K1 cv1a cv2a
  go_wp2_with fail
  refine K2.mono ?_
  rintro e w2 ⟨vb, vi, rfl, ho, hb2⟩
  rw [cd_decX] at ho
  have hL := ho.lies
  obtain ⟨a', c', a, c, blk, off, rfl, rfl, -, hI⟩ := hL.opened
  obtain ⟨rfl, x, e1, n1, k1, e2, n2, k2, hx, -, d0, d1, d2, hX⟩ := hI.nth (Below.refl _ _) (i := 1) (by decide)
  have ex : x = dogI := by
    have : [catI, dogI][1]? = some x := hx
    simp at this
    exact this.symm
  subst ex
  obtain ⟨a3, c3, a4, c4, blk4, off4, eq3, eq4, hV, -⟩ := hX.opened
  obtain ⟨a5, b5, off5, c5, eq5, vv5, -⟩ := hV
  have hbl : blk < w2.heap.size := World.block_lt_of_cell? _ _ d0
  obtain ⟨wB, eB⟩ : ∃ wB, wB = w2.alloc (.cells #[.bool true, .slice a' 0 c', .slice (some ⟨blk, off, none⟩) 2 c] 25) := ⟨_, rfl⟩
  have bB : Below w2.heap.size w2 wB := by rw [eB]; exact below_alloc _ _
  have cvA := convert_view ((HB2.out.2.below (ch (below_alloc w1 _) hb2)).below bB) cv
  have cvB := convert_view (vv5.below bB) c5
  have q1 := (bB.cell (p := ⟨blk, off + 1 * 3 + 1, none⟩) hbl).trans (d1.trans (congrArg some eq5))
  have l9 : cdB.length = 9 := rfl
  have l3 : [100, 111, 103].length = 3 := rfl
  have l2 : [catI, dogI].length = 2 := rfl
  have l0 : ([] : List Nat).length = 0 := rfl
  have es1 : str 9 (fun i => ((gd cdB i : Nat) : Int)) = { data := #[200, 131, 99, 97, 116, 131, 100, 111, 103] } := by rfl
  have es2 : str 3 (fun i => ((gd [100, 111, 103] i : Nat) : Int)) = { data := #[100, 111, 103] } := by rfl
  rw [l9, es1] at cvA
  rw [l3, es2] at cvB
  rw [l3] at q1
  rw [cd_decX, cd_decP, cd_decE, l2, l0, l9, show cdI.l = true from rfl]
  rw [eB] at cvA cvB q1
  have HB3 : Hid (Below w.heap.size w wB) := ch (ch HB2.out.1 (ch (below_alloc w1 _) hb2)) bB
  rw [eB] at HB3
  rw [show off + 1 * 3 + 1 = off + 3 + 1 by omega] at q1
  clear bB eB es1 es2 l9 l3 l2 l0 vv5 eq5 eq3 eq4 hX d0 d1 d2 hx hI hL ho hb2 hbl K2
  go_wp2_with fail
  go_ret
  exact ⟨rfl, HB3.out⟩
end Go.Proofs.Ytlpmcdnhnhgmpaa
