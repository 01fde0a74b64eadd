import Derived.Test.YtledfigfokoiiaaRuq
import Derived.Test.YtledfigfokoiiaaAptq
import Derived.Test.YtledfigfokoiiaaKnq
import Derived.Lib.QuietBelow
/-
  cairnlaw03: Roomy, AsWas: a copy with marks behind it, and whether it is as it was. (After mac's ExA.)
-/
namespace Go.Proofs.Ytledfigfokoiiaa
open Go.RowKit
def mk4 (i : Nat) : Nat := if i % 2 = 0 then 85 else 170
def cat4 (s : List Nat) (i : Nat) : Nat := if i < s.length then gd s i else mk4 (i - s.length)
theorem mk4_lt (i : Nat) : mk4 i < 256 := by unfold mk4; split <;> omega
theorem cat4_lt {s : List Nat} (hs : ∀ x ∈ s, x < 256) (i : Nat) : cat4 s i < 256 := by
  unfold cat4
  split
  · exact gd_lt hs i
  · exact mk4_lt _
theorem view_new4 (w : World) : View (w.alloc (.cells #[.int .u8 85, .int .u8 170, .int .u8 85, .int .u8 170] 5)) (some ⟨w.heap.size, 0, none⟩) w.heap.size 0 4 (fun i => (mk4 i : Int)) := by
  refine ⟨fun _ => rfl, fun i hi => ?_, fun i _ => by have := mk4_lt i; omega, by omega⟩
  rw [cell_of_row _ _ _ _ 5 _ (heap_alloc_new w _)]
  match i, hi with
  | 0, _ => rfl
  | 1, _ => rfl
  | 2, _ => rfl
  | 3, _ => rfl
/-- A COPY WITH MARKS BEHIND IT -/
def Ry (P : Nat → Prop) (w : World) (v : Value) (s : List Nat) : Prop :=
  ∃ g cap, v = .slice (some ⟨g, 0, none⟩) s.length cap ∧ View w (some ⟨g, 0, none⟩) g 0 (s.length + 4) (fun i => ((cat4 s i : Nat) : Int)) ∧ s.length + 4 ≤ cap ∧ s.length ≤ 140737488351232 ∧ P g ∧ ∃ cur, w.heap[g]? = some (.cells cur 5 (0, 0))
theorem Ry.same {P : Nat → Prop} {w w' : World} {v : Value} {s : List Nat} (h : Ry P w v s) (k : ∀ i, P i → i < w.heap.size → w'.heap[i]? = w.heap[i]?) : Ry P w' v s := by
  obtain ⟨g, cap, h1, h2, h3, h4, h5, cur, h6⟩ := h
  exact ⟨g, cap, h1, ⟨h2.at_, fun i hi => (World.cell?_of_block (w := w) (k g h5 (h2.lt (by omega)))).trans (h2.cell i hi), h2.bd, h2.len⟩, h3, h4, h5, cur, (k g h5 (h2.lt (by omega))).trans h6⟩
theorem Ry.below {P : Nat → Prop} {w w' : World} {v : Value} {s : List Nat} (h : Ry P w v s) (k : Below w.heap.size w w') : Ry P w' v s := h.same (fun i _ hi => k.block i hi)
theorem Ry.mono {P Q : Nat → Prop} {w : World} {v : Value} {s : List Nat} (h : Ry P w v s) (k : ∀ i, P i → i < w.heap.size → Q i) : Ry Q w v s := by
  obtain ⟨g, cap, h1, h2, h3, h4, h5, h6⟩ := h
  exact ⟨g, cap, h1, h2, h3, h4, k g h5 (h2.lt (by omega)), h6⟩
theorem Ry.vb {P : Nat → Prop} {w : World} {v : Value} {s : List Nat} (h : Ry P w v s) : Vb w v s := by
  obtain ⟨g, cap, h1, h2, h3, h4, h5, -⟩ := h
  have hc : ∀ i, i < s.length → cat4 s i = gd s i := fun i hi => by unfold cat4; rw [if_pos hi]
  refine ⟨some ⟨g, 0, none⟩, g, 0, cap, h1, ⟨fun _ => rfl, fun i hi => ?_, fun i hi => ?_, by have := h2.len; omega⟩, by omega, (by intro q; cases q), h4⟩
  · have := h2.cell i (by omega)
    rw [hc i hi] at this
    exact this
  · have := h2.bd i (by omega)
    rw [hc i hi] at this
    exact this
set_option maxRecDepth 100000 in
set_option maxHeartbeats 1600000 in
theorem roomy3_any {w : World} {v : Value} {s : List Nat} (h : Vb w v s) :
    Calls Try.prog 15 #[v] w fun e w' => ∃ u, e = .returned u ∧ Ry (fun q => w.heap.size ≤ q ∧ q < w'.heap.size) w' u s ∧ Below w.heap.size w w' := by
  obtain ⟨a, b, off, c, rfl, hv, -, hnil, hn⟩ := h
  have hsb := (vw_ok hv).2
  have own0 := World.ownsRow_lit (base := w.heap.size) (e := 5) (size := 1) w #[] 0 (Nat.le_refl _) (by decide) rfl
  have HV0 : Hid (View (w.alloc (.cells #[] 5)) a b off s.length (fun i => ((gd s i : Nat) : Int)) ∧ (a = none → c = 0)) := ⟨hv.below (below_alloc _ _), hnil⟩
  obtain ⟨n, en⟩ : ∃ n, n = s.length := ⟨_, rfl⟩
  have HN : Hid (n = s.length ∧ ∀ x ∈ s, x < 256) := ⟨en, hsb⟩
  rw [← en] at HV0 hn ⊢
  clear hv hnil hsb en
  go_enter Try.func15, Try.ntmps15
  go_wp2_with (refine wpList_append_bytes (by rfl) (.tmp 4) (.tmp 5) (by rfl) w.heap.size _ 0 [] (by rfl) own0 a b off n c _ (by rfl) HV0.out.1 HV0.out.2 (by omega) (by simp) ?_)
  intro v1 w1 own1 gr1 nn1
  have b1 : Below w.heap.size w w1 := (below_alloc _ _).trans (grown_below gr1 own0 (Nat.le_refl _) (by simp))
  replace own1 : w1.ownsRow w.heap.size 5 1 v1 n (vals (fun i => ((gd s i : Nat) : Int)) n) := by simpa using own1
  clear own0 gr1 nn1 HV0
  have s1 := b1.size
  go_wp2_with (refine wpList_append_bytes (by rfl) (.tmp 7) (.tmp 8) (by rfl) w.heap.size _ n _ (by rfl) (own1.alloc _) (some ⟨w1.heap.size, 0, none⟩) w1.heap.size 0 4 4 _ (by rfl) (view_new4 w1) (fun h => by cases h) (by omega) (by simp; omega) ?_)
  intro v2 w2 own2 gr2 nn2
  have b2 : Below w.heap.size w w2 := (b1.alloc s1 _).trans (grown_below gr2 (own1.alloc _) (Nat.le_refl _) (by simp; omega))
  have ev : vals (fun i => ((gd s i : Nat) : Int)) n ++ vals (fun i => (mk4 i : Int)) 4 = vals (fun i => ((cat4 s i : Nat) : Int)) (n + 4) := by
    rw [vals_congr (Y := fun i => ((gd s i : Nat) : Int)) (Z := fun i => ((cat4 s i : Nat) : Int)) (fun i hi => by unfold cat4; rw [if_pos (by rw [← HN.out.1]; exact hi)])]
    exact vals_app _ n 4 _ (fun i _ => by unfold cat4; rw [if_neg (by rw [← HN.out.1]; omega), HN.out.1, Nat.add_sub_cancel_left])
  rw [ev] at own2
  clear own1 gr2 nn2 b1 s1 ev
  obtain ⟨a2, g, cap, rfl, vw, hcap, hB⟩ := view_own own2 (fun i _ => by have := cat4_lt HN.out.2 i; omega) (by omega)
  have ha := vw.at_ (by omega)
  subst ha
  have hB1 := (hB (by simp)).1
  obtain ⟨cur, hcur⟩ := own_block own2 (g := g) rfl
  have hlt := vw.lt (by omega)
  have q1 : (n : Int) ≤ (cap : Int) := by omega
  have q2 : (0 : Int) ≤ (n : Int) := by omega
  have HO : Hid (View w2 (some ⟨g, 0, none⟩) g 0 (n + 4) (fun i => ((cat4 s i : Nat) : Int)) ∧ Below w.heap.size w w2 ∧ (w.heap.size ≤ g ∧ g < w2.heap.size) ∧ w2.heap[g]? = some (.cells cur 5 (0, 0))) := ⟨vw, b2, ⟨hB1, hlt⟩, hcur⟩
  clear own2 b2 vw hB hB1 hlt hcur
  go_wp2_with fail
  go_ret
  refine ⟨_, rfl, ⟨g, cap, by rw [HN.out.1]; rfl, by rw [← HN.out.1]; exact HO.out.1, by rw [← HN.out.1]; exact hcap, by rw [← HN.out.1]; omega, HO.out.2.2.1, cur, HO.out.2.2.2⟩, HO.out.2.1⟩
def marks4 : ByteArray := ⟨#[85, 170, 85, 170]⟩
theorem str_marks4 (s : List Nat) : sB s ++ marks4 = str (s.length + 4) (fun i => ((cat4 s i : Nat) : Int)) := by
  have e : marks4 = strOfNums [85, 170, 85, 170] := by kernel_rfl
  rw [e]
  unfold sB str strOfNums
  obtain ⟨n, en⟩ : ∃ n, n = s.length := ⟨_, rfl⟩
  have h : (List.range (s.length + 4)).map (fun i => ((cat4 s i : Nat) : Int)) = (List.range s.length).map (fun i => ((gd s i : Nat) : Int)) ++ [85, 170, 85, 170] := by
    rw [← en, show n + 4 = n + 1 + 1 + 1 + 1 by omega, List.range_succ, List.range_succ, List.range_succ, List.range_succ]
    simp only [List.map_append, List.map_cons, List.map_nil, List.append_assoc, List.cons_append, List.nil_append]
    congr 1
    · refine List.map_congr_left (fun i hi => ?_)
      have : i < n := by simpa using hi
      unfold cat4
      rw [if_pos (by omega)]
    · have c0 : cat4 s n = 85 := by unfold cat4; rw [if_neg (by omega), en, Nat.sub_self]; rfl
      have c1 : cat4 s (n + 1) = 170 := by unfold cat4; rw [if_neg (by omega), en, Nat.add_sub_cancel_left]; rfl
      have c2 : cat4 s (n + 2) = 85 := by unfold cat4; rw [if_neg (by omega), en, Nat.add_sub_cancel_left]; rfl
      have c3 : cat4 s (n + 3) = 170 := by unfold cat4; rw [if_neg (by omega), en, Nat.add_sub_cancel_left]; rfl
      rw [c0, c1, c2, c3]
      rfl
  rw [h, List.map_append]
  apply ByteArray.ext
  simp
set_option maxRecDepth 100000 in
set_option maxHeartbeats 1600000 in
theorem aswas3_q {P : Nat → Prop} {w : World} {v u : Value} {s : List Nat} (h : Vb w v s) (hr : Ry P w u s) :
    Calls Try.prog 14 #[u, v] w fun e w' => e = .returned (.bool true) ∧ ∃ q, w' = w.drewN q := by
  obtain ⟨a, b, off, c, rfl, hv, -, hnil, hn⟩ := h
  obtain ⟨g, cap, rfl, hg, hcap, -, -, -⟩ := hr
  obtain ⟨n, en⟩ : ∃ n, n = s.length := ⟨_, rfl⟩
  have cv2 := fun q => convert_view (hv.drewN q) c
  have cv1 := fun q => convert_view (hg.drewN q) cap
  have sm := str_marks4 s
  have sz : (sB s).size = s.length := by unfold sB str; rw [strOfNums_size]; simp
  have cv2 : ∀ q, (convert 23 9 (.slice a s.length c)).run Try.prog (w.drewN q) = .ok (.string (sB s)) (w.drewN q) := cv2
  rw [← en] at hn hcap cv1 cv2 sm sz ⊢
  have k1 : (0 : Int) ≤ (n : Int) + 4 := by omega
  have k2 : (n : Int) + 4 ≤ (cap : Int) := by omega
  have k4 : IntKind.i64.wrap ((n : Int) + 4) = (n : Int) + 4 := by rw [IntKind.wrap_i64]; omega
  have k3 : ((n : Int) + 4).toNat = n + 4 := by omega
  have sl := sliceAt_upto (some ⟨g, 0, none⟩) n cap (n + 4) hcap
  rw [show (((n + 4 : Nat)) : Int) = (n : Int) + 4 by omega] at sl
  unfold marks4 at sm
  simp only [← sm] at cv1
  obtain ⟨s2, hs2⟩ : ∃ t, t = sB s := ⟨_, rfl⟩
  simp only [← hs2] at cv1 cv2
  rw [← hs2] at sz
  have k6 : s2.size + (ByteArray.mk #[85, 170, 85, 170]).size ≤ 9223372036854775807 := by rw [sz, show (ByteArray.mk #[85, 170, 85, 170]).size = 4 from rfl]; omega
  have k7 : s2.size + 4 ≤ 9223372036854775807 := k6
  clear hv hg sm hs2 sz en hnil
  go_enter Try.func14, Try.ntmps14
  go_wp2_with fail
  go_quiet (fail)
  go_wp2_with fail
  go_ret
  exact ⟨rfl, _, rfl⟩
theorem aswas3_any {P : Nat → Prop} {w : World} {v u : Value} {s : List Nat} (h : Vb w v s) (hr : Ry P w u s) :
    Calls Try.prog 14 #[u, v] w fun e w' => e = .returned (.bool true) ∧ Below w.heap.size w w' :=
  (aswas3_q h hr).mono (fun e w' ⟨he, q, hq⟩ => ⟨he, by rw [hq]; exact below_drewN (Below.refl _ _) q⟩)
end Go.Proofs.Ytledfigfokoiiaa
