import Derived.Test.YtpiinkfcaoaffaaSazz
import Derived.Lib.SlBytesConst
/-
  known.
-/
namespace Go.Proofs.Ytpiinkfcaoaffaa
open Go.RowKit
def kN : Nd := ⟨1, [1, 2, 3, 4], [120], false, rz, kz⟩
def kB : List Nat := [197, 131, 32, 18, 52, 120]
theorem kN_w : kN.W := ⟨kz_len, rz_w, kz_w, by decide, by decide⟩
theorem kN_may : mayN KD kN = true := by decide +kernel
theorem kN_enc : encN kN = kB := by decide +kernel
theorem kN_eE : eE kN = 0 := by unfold eE; rw [kN_may]; rfl
theorem kN_eN : eN kN = kB := by unfold eN; rw [kN_may, if_pos rfl, kN_enc]
theorem kB_dec : decN KD kB = some kN := by rw [← kN_enc]; exact decN_enc kN_w kN_may
theorem kB_dN : dN kB = kN := by unfold dN; rw [kB_dec]; rfl
theorem kB_dE : dE kB = 0 := by unfold dE; rw [kB_dec]; rfl
theorem kB_sB : sB kB = ⟨#[197, 131, 32, 18, 52, 120]⟩ := by kernel_rfl
theorem vb_row {w : World} {g : Nat} {s : List Nat} {fr : Nat × Nat} (h : w.heap[g]? = some (.cells (bv s).toArray 5 fr)) (hs : ∀ x ∈ s, x < 256) (hl : s.length ≤ 1048576) : Vb w (.slice (some ⟨g, 0, none⟩) s.length s.length) s :=
  ⟨_, _, _, _, rfl, ⟨fun _ => rfl, fun i hi => by
    rw [Nat.zero_add, cell_of_row _ _ _ _ 5 _ h]
    simpa using bv_at hi, fun i _ => by have := gd_lt hs i; omega, by omega⟩, Nat.le_refl _, (fun h => by cases h), by omega⟩
set_option maxRecDepth 100000 in
set_option maxHeartbeats 1600000 in
theorem known_any (w : World) : Calls Try.prog 5 #[] w fun e w' => e = .returned (.bool true) ∧ Below w.heap.size w w' := by
  have hz := zv29
  have cv := Lib.run_convert_bytes_const (P := Try.prog) (w.alloc (.cells #[.int .u8 1, .int .u8 2, .int .u8 3, .int .u8 4] 5)) 22 5 #[.int .u8 120] 1 1 Try.underlying22 Try.underlying5
  rw [World.size_alloc] at cv
  simp only [List.size_toArray, List.length_cons, List.length_nil, Nat.zero_add] at cv
  obtain ⟨W, eW⟩ : ∃ W, W = (w.alloc (.cells #[.int .u8 1, .int .u8 2, .int .u8 3, .int .u8 4] 5)).alloc (.cells #[.int .u8 120] 5 (1, 2)) := ⟨_, rfl⟩
  have bW : Below w.heap.size w W := by rw [eW]; exact (below_alloc _ _).alloc (by simp) _
  have v1 : Vb W (.slice (some ⟨w.heap.size, 0, none⟩) 4 4) [1, 2, 3, 4] := by
    rw [eW]
    exact vb_row (s := [1, 2, 3, 4]) (fr := (0, 0)) ((heap_alloc_old _ _ (by simp)).trans (heap_alloc_new w _)) (by decide) (by decide)
  have v2 : Vb W (.slice (some ⟨w.heap.size + 1, 0, none⟩) 1 1) [120] := by
    rw [eW]
    have := heap_alloc_new (w.alloc (.cells #[.int .u8 1, .int .u8 2, .int .u8 3, .int .u8 4] 5)) (.cells #[.int .u8 120] 5 (1, 2))
    rw [World.size_alloc] at this
    exact vb_row (s := [120]) (fr := (1, 2)) this (by decide) (by decide)
  obtain ⟨U, eU⟩ : ∃ U : Nv, U = ⟨.slice (some ⟨w.heap.size, 0, none⟩) 4 4, .slice (some ⟨w.heap.size + 1, 0, none⟩) 1 1, .slice none 0 0, fun _ => .slice none 0 0⟩ := ⟨_, rfl⟩
  have nin : Nin W kN U := by
    rw [eU]
    exact ⟨kN_w, v1, v2, vb_nil W, fun hr => by rw [kz_eq (List.mem_of_getElem? hr)]; exact vb_nil W⟩
  have bd : Try.prog.built 29 [(0, .int .i64 1), (1, .slice (some ⟨w.heap.size, 0, none⟩) 4 4), (2, .slice (some ⟨w.heap.size + 1, 0, none⟩) 1 1)] = some (nc kN U).toArray := by
    rw [eU]
    exact built29_leaf [1, 2, 3, 4] [120] _ _ _ _ _ _
  obtain ⟨n, en⟩ : ∃ n, n = kN := ⟨_, rfl⟩
  rw [← en] at nin bd
  have one := nin.one
  have hn := nin.W
  have nb := nb_new hn W U
  have K1 := nencode_any (nin.keep (below_alloc W (.cells (nc n U).toArray 29)))
  have HH : Hid (W = (w.alloc (.cells #[.int .u8 1, .int .u8 2, .int .u8 3, .int .u8 4] 5)).alloc (.cells #[.int .u8 120] 5 (1, 2)) ∧ Below w.heap.size w W ∧ n = kN ∧ Nin W n U ∧ Nb (W.alloc (.cells (nc n U).toArray 29)) W.heap.size n U) := ⟨eW, bW, en, nin, nb⟩
  have sW : W.heap.size = w.heap.size + 1 + 1 := by rw [eW]; simp
  rw [show eE n = 0 by rw [en]; exact kN_eE, show eN n = kB by rw [en]; exact kN_eN] at K1
  clear eW eU v1 v2 nin en bW
  go_enter Try.func5, Try.ntmps5
  have SWE : Hid (W.heap.size = w.heap.size + 1 + 1) := sW
  have HCV := cv
  rw [← HH.out.1] at HCV
  clear sW cv
  have KN := fun w0 => num_any w0 0
  have HD : Hid (∀ {w1 : World}, Calls Try.prog 8 #[.slice (some ⟨w1.heap.size, 0, none⟩) 6 6] (w1.alloc (.cells #[.int .u8 197, .int .u8 131, .int .u8 32, .int .u8 18, .int .u8 52, .int .u8 120] 5)) fun e w' => ∃ u, e = .returned (.tuple #[.agg (nc n u).toArray, .int .i64 0]) ∧ Nin w' n u ∧ Below w1.heap.size w1 w') := fun {w1} => by
    have := ndecode_any kB (w1.alloc (.cells #[.int .u8 197, .int .u8 131, .int .u8 32, .int .u8 18, .int .u8 52, .int .u8 120] 5)) (.slice (some ⟨w1.heap.size, 0, none⟩) 6 6) (vb_row (s := kB) (fr := (0, 0)) (heap_alloc_new w1 _) (by decide) (by decide))
    refine this.mono ?_
    rintro e w' ⟨u, rfl, no, b⟩
    refine ⟨u, by rw [kB_dN, kB_dE, HH.out.2.2.1]; rfl, ?_, ch (below_alloc _ _) b⟩
    have q := no.inn
    rw [kB_dN, ← HH.out.2.2.1] at q
    exact q
  clear SWE
  go_wp2_with (first
    | refine wpList_bdL (by kernel_rfl) _ _ (by rfl) _ bd ?_
    | refine wpList_st29 (by kernel_rfl) _ _ (by rfl) n nz U uz hn nz_w one (by rfl) (by rfl) ?_
    | refine wpList_st29 (by kernel_rfl) _ _ (by rfl) n nz u2 uz hn nz_w one2 (by rfl) (by rfl) ?_
    | refine wpList_ld29 (by kernel_rfl) _ (by rfl) _ _ _ hn nb (by rfl) ?_
    | refine wpList_ld29 (by kernel_rfl) _ (by rfl) _ _ _ hn nb2 (by rfl) ?_
    | refine wpList_ld29 (by kernel_rfl) _ (by rfl) _ _ _ hn nb3 (by rfl) ?_
    | (go_at_call 6; refine K1.mono ?_; rintro e w1 ⟨v, rfl, an⟩; obtain ⟨aE, cE, rfl⟩ := an.form; have HE : Hid (Ans (W.alloc (.cells (nc n U).toArray 29)) w1 (.slice aE kB.length cE) kB) := an; have K2 := HD.out (w1 := w1); clear an K1 nb)
    | (go_at_call 8; refine K2.mono ?_; rintro e w2 ⟨u2, rfl, nin2, b2⟩; have one2 := nin2.one; have bb := ch b2 (below_alloc w2 (.cells (nc n u2).toArray 29)); have nb2 := nb_new hn w2 u2; have nb3 := (HH.out.2.2.2.2.keep HE.out.below).keep bb; have cvE := conv_vb (Rel.keep HE.out.vb bb); rw [kB_sB] at cvE; have K3 := same_loop (nin2.keep (below_alloc w2 (.cells (nc n u2).toArray 29))) (HH.out.2.2.2.1.keep (ch (ch (below_alloc _ _) HE.out.below) bb)); rw [decide_eq_true rfl] at K3; have HB : Hid (Below w.heap.size w (w2.alloc (.cells (nc n u2).toArray 29))) := ch HH.out.2.1 (ch (ch (below_alloc _ _) HE.out.below) bb); clear nin2 b2 bb K2)
    | (go_at_call 9; refine (KN _).mono ?_; rintro e w' ⟨rfl, rfl⟩)
    | (go_at_call 10; refine K3.mono ?_; rintro e w3 ⟨rfl, b3⟩; have HB3 : Hid (Below w.heap.size w w3) := ch HB.out b3; clear b3 K3))
  go_ret
  exact ⟨rfl, HB3.out⟩
end Go.Proofs.Ytpiinkfcaoaffaa
