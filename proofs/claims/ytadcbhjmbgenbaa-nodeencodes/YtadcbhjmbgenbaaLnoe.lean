import Derived.Test.YtadcbhjmbgenbaaIbe
import Derived.Laws.StructEq
import Derived.Lib.Bytes
import Derived.Lib.QuietBelow
import Derived.Test.YtadcbhjmbgenbaaBne
/-
  Encode, Check, num; strings compared.
-/
namespace Go.Proofs.Ytadcbhjmbgenbaa
open Go.RowKit

theorem nck_all (n : Nd) : Nck n := ⟨fun _ _ => ndecode_any _, fun _ _ _ _ => ndecode_any _⟩
/-- what Encode answers -/
def eN (n : Nd) : List Nat := if mayN KD n then encN n else []
def eE (n : Nd) : Nat := if mayN KD n then 0 else 70
set_option maxRecDepth 100000 in
set_option maxHeartbeats 1600000 in
theorem check_any {w : World} {n : Nd} {u : Nv} (h : Nin w n u) : Calls Try.prog 12 #[.agg (nc n u).toArray] w fun e w' => e = .returned (.int .i64 ((eE n : Nat) : Int)) ∧ Below w.heap.size w w' := by
  have B1 : Below w.heap.size w (w.alloc (.cells (nc n u).toArray 29)) := below_alloc _ _
  have hn := h.W
  have nb := nb_new hn w u
  have K := mayN_any (h.keep B1) (nck_all n)
  have HE : Hid (eE n = if mayN KD n then 0 else 70) := rfl
  obtain ⟨q, eq⟩ : ∃ q, q = mayN KD n := ⟨_, rfl⟩
  rw [← eq] at K
  have HQ : Hid (q = mayN KD n) := eq
  clear h eq
  cases q with
  | true =>
    go_enter Try.func12, Try.ntmps12
    go_wp2_with (first | refine wpList_ld29 (by kernel_rfl) _ (by rfl) _ _ _ hn nb (by rfl) ?_ | (go_at_call 25; refine K.mono ?_; rintro e w1 ⟨rfl, hb1⟩; have HB1 : Hid (Below w.heap.size w w1) := ch B1 hb1; clear hb1))
    go_ret
    rw [HE.out, ← HQ.out]
    exact ⟨rfl, HB1.out⟩
  | false =>
    go_enter Try.func12, Try.ntmps12
    go_wp2_with (first | refine wpList_ld29 (by kernel_rfl) _ (by rfl) _ _ _ hn nb (by rfl) ?_ | (go_at_call 25; refine K.mono ?_; rintro e w1 ⟨rfl, hb1⟩; have HB1 : Hid (Below w.heap.size w w1) := ch B1 hb1; clear hb1))
    go_ret
    rw [HE.out, ← HQ.out]
    exact ⟨rfl, HB1.out⟩
set_option maxRecDepth 100000 in
set_option maxHeartbeats 1600000 in
theorem nencode_any {w : World} {n : Nd} {u : Nv} (h : Nin w n u) : Calls Try.prog 8 #[.agg (nc n u).toArray] w fun e w' => ∃ v, e = .returned (.tuple #[v, .int .i64 ((eE n : Nat) : Int)]) ∧ Ans w w' v (eN n) := by
  have B1 : Below w.heap.size w (w.alloc (.cells (nc n u).toArray 29)) := below_alloc _ _
  have hn := h.W
  have nb := nb_new hn w u
  have K := mayN_any (h.keep B1) (nck_all n)
  have HE : Hid (eE n = (if mayN KD n then 0 else 70) ∧ eN n = if mayN KD n then encN n else []) := ⟨rfl, rfl⟩
  obtain ⟨q, eq⟩ : ∃ q, q = mayN KD n := ⟨_, rfl⟩
  rw [← eq] at K HE
  have HQ : Hid (q = mayN KD n) := eq
  have HH : Hid (Nin w n u ∧ Nb (w.alloc (.cells (nc n u).toArray 29)) w.heap.size n u) := ⟨h, nb⟩
  clear h eq
  cases q with
  | true =>
    have ni := ni_may hn HQ.out.symm
    have he := enc_ok ni.may ni.dp (by have := ni.len; omega)
    have HNI : Hid (NI n ∧ encE (nIt n) = 0 ∧ enc (nIt n) = encN n) := ⟨ni, he.1, he.2⟩
    obtain ⟨xl, exl⟩ : ∃ l, l = (nIt n).l := ⟨_, rfl⟩
    have HXL : Hid (xl = (nIt n).l) := exl
    have KI : Hid (∀ {w1 : World}, Below w.heap.size w w1 → Calls Try.prog 27 #[.agg (nc n u).toArray] w1 fun e w' => ∃ vb vi, e = .returned (iv xl vb vi) ∧ Lies Vb w' (nIt n) vb vi ∧ Below w1.heap.size w1 w') := fun {w1} k => by
      have := itemOf_any (HH.out.1.keep k)
      unfold IoPst at this
      rw [← HXL.out] at this
      exact this
    have KE : Hid (∀ {w1 : World} {vb vi : Value}, Lies Vb w1 (nIt n) vb vi → Calls Try.prog 26 #[iv xl vb vi] w1 fun e w' => ∃ v, e = .returned (.tuple #[v, .int .i64 0]) ∧ Str w' (fun i => w1.heap.size ≤ i) v (encN n) ∧ Below w1.heap.size w1 w') := fun {w1 vb vi} k => by
      have := encode_any _ _ _ _ k
      rw [← HXL.out, HNI.out.2.1, HNI.out.2.2] at this
      exact this
    clear ni he exl
    go_enter Try.func8, Try.ntmps8
    go_wp2_with (first
      | refine wpList_ld29 (by kernel_rfl) _ (by rfl) _ _ _ hn nb (by rfl) ?_
      | refine wpList_ld29 (by kernel_rfl) _ (by rfl) _ _ _ hn nb1 (by rfl) ?_
      | (go_at_call 25; refine K.mono ?_; rintro e w1 ⟨rfl, hb1⟩; have HB1 : Hid (Below w.heap.size w w1) := ch B1 hb1; have nb1 := HH.out.2.keep hb1; have K2 := KI.out HB1.out; clear hb1 nb K)
      | (go_at_call 27; refine K2.mono ?_; rintro e w2 ⟨vb, vi, rfl, hl, b2⟩; have HB2 : Hid (Below w.heap.size w w2) := ch HB1.out b2; have K3 := KE.out hl; obtain ⟨a1, n1, k1, a2, n2, k2, rfl, rfl⟩ := hl.form; clear hl b2 K2)
      | (go_at_call 26; refine K3.mono ?_; rintro e w3 ⟨v, rfl, hs, b3⟩; have HZ : Hid (Below w2.heap.size w2 w3 ∧ Str w3 (fun i => w2.heap.size ≤ i) v (encN n)) := ⟨b3, hs⟩; clear b3 hs K3))
    go_ret2
    refine ⟨v, by rw [HE.out.1]; rfl, ?_⟩
    rw [HE.out.2]
    have s2 := HB2.out.size
    have ho := own_of_str HZ.out.2
    exact ⟨own_rebase ho (fun q hq => by have := (ho.lt q hq).1; omega), HNI.out.1.byt, by have := HNI.out.1.len; show (encN n).length ≤ _; unfold encN; omega, ch HB2.out HZ.out.1⟩
  | false =>
    go_enter Try.func8, Try.ntmps8
    go_wp2_with (first | refine wpList_ld29 (by kernel_rfl) _ (by rfl) _ _ _ hn nb (by rfl) ?_ | (go_at_call 25; refine K.mono ?_; rintro e w1 ⟨rfl, hb1⟩; have HB1 : Hid (Below w.heap.size w w1) := ch B1 hb1; clear hb1))
    go_ret2
    refine ⟨_, by rw [HE.out.1]; rfl, ?_⟩
    rw [HE.out.2]
    exact ans_nil HB1.out
set_option maxRecDepth 100000 in
theorem num_any (w : World) (e : Int) : Calls Try.prog 9 #[.int .i64 e] w fun r w' => r = .returned (.int .i64 e) ∧ w' = w := by
  go_enter Try.func9, Try.ntmps9
  go_wp2_with fail
  go_ret
  exact ⟨rfl, rfl⟩

/-! ### strings -/
def sB (s : List Nat) : ByteArray := str s.length (fun i => ((gd s i : Nat) : Int))
theorem sB_inj {s t : List Nat} (hs : ∀ x ∈ s, x < 256) (ht : ∀ x ∈ t, x < 256) (h : sB s = sB t) : s = t := by
  have h1 : (sB s).data.toList = (sB t).data.toList := by rw [h]
  unfold sB str at h1
  rw [strOfNums_data, strOfNums_data] at h1
  have hl : s.length = t.length := by
    have := congrArg List.length h1
    simpa using this
  refine ext_gd hl (fun i hi => ?_)
  have h2 : (((List.range s.length).map (fun i => ((gd s i : Nat) : Int))).map fun n => UInt8.ofNat n.toNat)[i]? = (((List.range t.length).map (fun i => ((gd t i : Nat) : Int))).map fun n => UInt8.ofNat n.toNat)[i]? := by rw [h1]
  rw [List.getElem?_map, List.getElem?_map, List.getElem?_map, List.getElem?_map, List.getElem?_range hi, List.getElem?_range (by omega)] at h2
  have h3 : UInt8.ofNat (gd s i) = UInt8.ofNat (gd t i) := by simpa using h2
  have h4 := congrArg UInt8.toNat h3
  have a1 := gd_lt hs i
  have a2 := gd_lt ht i
  rw [UInt8.toNat_ofNat', UInt8.toNat_ofNat', Nat.mod_eq_of_lt (by omega), Nat.mod_eq_of_lt (by omega)] at h4
  exact h4
theorem sB_list (s : List Nat) : (sB s).toList = (sB s).data.toList := by
  unfold sB str
  exact Lib.strOfNums_toList _
theorem sB_ne {s t : List Nat} (hs : ∀ x ∈ s, x < 256) (ht : ∀ x ∈ t, x < 256) (h : s ≠ t) : sB s ≠ sB t ∧ ((sB s).toList == (sB t).toList) = false ∧ (sB s == sB t) = false := by
  have h1 : sB s ≠ sB t := fun e => h (sB_inj hs ht e)
  have h2 : ((sB s).toList == (sB t).toList) = false := by
    apply beq_eq_false_iff_ne.2
    intro e
    rw [sB_list, sB_list] at e
    exact h1 (ByteArray.ext (by rw [← Array.toList_inj]; exact e))
  exact ⟨h1, h2, by rw [beq_toListBytes]; exact h2⟩
theorem conv_vb {w : World} {v : Value} {s : List Nat} (h : Vb w v s) : (convert 22 9 v).run Try.prog w = .ok (.string (sB s)) w := by
  obtain ⟨a, b, off, c, rfl, hv, -⟩ := h
  exact convert_view hv c
theorem vb_byt {w : World} {v : Value} {s : List Nat} (h : Vb w v s) : ∀ x ∈ s, x < 256 := by
  obtain ⟨a, b, off, c, rfl, hv, -⟩ := h
  exact (vw_ok hv).2
end Go.Proofs.Ytadcbhjmbgenbaa

/-
  cairnlaw03: Roomy, AsWas: a copy with marks behind it, and whether it is as it was. (After mac's ExA.)
-/
namespace Go.Proofs.Ytadcbhjmbgenbaa
open Go.RowKit

def mk4 (i : Nat) : Nat := if i % 2 = 0 then 85 else 170
def cat4 (s : List Nat) (i : Nat) : Nat := if i < s.length then gd s i else mk4 (i - s.length)
theorem mk4_lt (i : Nat) : mk4 i < 256 := by unfold mk4; split <;> omega
theorem cat4_lt {s : List Nat} (hs : ∀ x ∈ s, x < 256) (i : Nat) : cat4 s i < 256 := by
  unfold cat4
  split
  · exact gd_lt hs i
  · exact mk4_lt _
theorem view_new4 (w : World) : View (w.alloc (.cells #[.int .u8 85, .int .u8 170, .int .u8 85, .int .u8 170] 5)) (some ⟨w.heap.size, 0, none⟩) w.heap.size 0 4 (fun i => (mk4 i : Int)) := by
  refine ⟨fun _ => rfl, fun i hi => ?_, fun i _ => by have := mk4_lt i; omega, by omega⟩
  rw [cell_of_row _ _ _ _ 5 _ (heap_alloc_new w _)]
  match i, hi with
  | 0, _ => rfl
  | 1, _ => rfl
  | 2, _ => rfl
  | 3, _ => rfl
/-- A COPY WITH MARKS BEHIND IT -/
def Ry (P : Nat → Prop) (w : World) (v : Value) (s : List Nat) : Prop :=
  ∃ g cap, v = .slice (some ⟨g, 0, none⟩) s.length cap ∧ View w (some ⟨g, 0, none⟩) g 0 (s.length + 4) (fun i => ((cat4 s i : Nat) : Int)) ∧ s.length + 4 ≤ cap ∧ s.length ≤ 140737488351232 ∧ P g
theorem Ry.same {P : Nat → Prop} {w w' : World} {v : Value} {s : List Nat} (h : Ry P w v s) (k : ∀ i, P i → i < w.heap.size → w'.heap[i]? = w.heap[i]?) : Ry P w' v s := by
  obtain ⟨g, cap, h1, h2, h3, h4, h5⟩ := h
  exact ⟨g, cap, h1, ⟨h2.at_, fun i hi => (World.cell?_of_block (w := w) (k g h5 (h2.lt (by omega)))).trans (h2.cell i hi), h2.bd, h2.len⟩, h3, h4, h5⟩
theorem Ry.below {P : Nat → Prop} {w w' : World} {v : Value} {s : List Nat} (h : Ry P w v s) (k : Below w.heap.size w w') : Ry P w' v s := h.same (fun i _ hi => k.block i hi)
theorem Ry.mono {P Q : Nat → Prop} {w : World} {v : Value} {s : List Nat} (h : Ry P w v s) (k : ∀ i, P i → i < w.heap.size → Q i) : Ry Q w v s := by
  obtain ⟨g, cap, h1, h2, h3, h4, h5⟩ := h
  exact ⟨g, cap, h1, h2, h3, h4, k g h5 (h2.lt (by omega))⟩
theorem Ry.vf {P : Nat → Prop} {w : World} {v : Value} {s : List Nat} (h : Ry P w v s) : Vf P w v s := by
  obtain ⟨g, cap, h1, h2, h3, h4, h5⟩ := h
  have hc : ∀ i, i < s.length → cat4 s i = gd s i := fun i hi => by unfold cat4; rw [if_pos hi]
  refine ⟨some ⟨g, 0, none⟩, g, 0, cap, h1, ⟨fun _ => rfl, fun i hi => ?_, fun i hi => ?_, by have := h2.len; omega⟩, by omega, (by intro q; cases q), h4, fun _ => h5⟩
  · have := h2.cell i (by omega)
    rw [hc i hi] at this
    exact this
  · have := h2.bd i (by omega)
    rw [hc i hi] at this
    exact this
set_option maxRecDepth 100000 in
set_option maxHeartbeats 1600000 in
theorem roomy3_any {w : World} {v : Value} {s : List Nat} (h : Vb w v s) :
    Calls Try.prog 20 #[v] w fun e w' => ∃ u, e = .returned u ∧ Ry (fun q => w.heap.size ≤ q ∧ q < w'.heap.size) w' u s ∧ Below w.heap.size w w' := by
  obtain ⟨a, b, off, c, rfl, hv, -, hnil, hn⟩ := h
  have hsb := (vw_ok hv).2
  have own0 := World.ownsRow_lit (base := w.heap.size) (e := 5) (size := 1) w #[] 0 (Nat.le_refl _) (by decide) rfl
  have HV0 : Hid (View (w.alloc (.cells #[] 5)) a b off s.length (fun i => ((gd s i : Nat) : Int)) ∧ (a = none → c = 0)) := ⟨hv.below (below_alloc _ _), hnil⟩
  obtain ⟨n, en⟩ : ∃ n, n = s.length := ⟨_, rfl⟩
  have HN : Hid (n = s.length ∧ ∀ x ∈ s, x < 256) := ⟨en, hsb⟩
  rw [← en] at HV0 hn ⊢
  clear hv hnil hsb en
  go_enter Try.func20, Try.ntmps20
  go_wp2_with (refine wpList_append_bytes (by rfl) (.tmp 4) (.tmp 5) (by rfl) w.heap.size _ 0 [] (by rfl) own0 a b off n c _ (by rfl) HV0.out.1 HV0.out.2 (by omega) (by simp) ?_)
  intro v1 w1 own1 gr1 nn1
  have b1 : Below w.heap.size w w1 := (below_alloc _ _).trans (grown_below gr1 own0 (Nat.le_refl _) (by simp))
  replace own1 : w1.ownsRow w.heap.size 5 1 v1 n (vals (fun i => ((gd s i : Nat) : Int)) n) := by simpa using own1
  clear own0 gr1 nn1 HV0
  have s1 := b1.size
  go_wp2_with (refine wpList_append_bytes (by rfl) (.tmp 7) (.tmp 8) (by rfl) w.heap.size _ n _ (by rfl) (own1.alloc _) (some ⟨w1.heap.size, 0, none⟩) w1.heap.size 0 4 4 _ (by rfl) (view_new4 w1) (fun h => by cases h) (by omega) (by simp; omega) ?_)
  intro v2 w2 own2 gr2 nn2
  have b2 : Below w.heap.size w w2 := (b1.alloc s1 _).trans (grown_below gr2 (own1.alloc _) (Nat.le_refl _) (by simp; omega))
  have ev : vals (fun i => ((gd s i : Nat) : Int)) n ++ vals (fun i => (mk4 i : Int)) 4 = vals (fun i => ((cat4 s i : Nat) : Int)) (n + 4) := by
    rw [vals_congr (Y := fun i => ((gd s i : Nat) : Int)) (Z := fun i => ((cat4 s i : Nat) : Int)) (fun i hi => by unfold cat4; rw [if_pos (by rw [← HN.out.1]; exact hi)])]
    exact vals_app _ n 4 _ (fun i _ => by unfold cat4; rw [if_neg (by rw [← HN.out.1]; omega), HN.out.1, Nat.add_sub_cancel_left])
  rw [ev] at own2
  clear own1 gr2 nn2 b1 s1 ev
  obtain ⟨a2, g, cap, rfl, vw, hcap, hB⟩ := view_own own2 (fun i _ => by have := cat4_lt HN.out.2 i; omega) (by omega)
  have ha := vw.at_ (by omega)
  subst ha
  have hB1 := (hB (by simp)).1
  have hlt := vw.lt (by omega)
  have q1 : (n : Int) ≤ (cap : Int) := by omega
  have q2 : (0 : Int) ≤ (n : Int) := by omega
  have HO : Hid (View w2 (some ⟨g, 0, none⟩) g 0 (n + 4) (fun i => ((cat4 s i : Nat) : Int)) ∧ Below w.heap.size w w2 ∧ w.heap.size ≤ g ∧ g < w2.heap.size) := ⟨vw, b2, hB1, hlt⟩
  clear own2 b2 vw hB hB1 hlt
  go_wp2_with fail
  go_ret
  refine ⟨_, rfl, ⟨g, cap, by rw [HN.out.1]; rfl, by rw [← HN.out.1]; exact HO.out.1, by rw [← HN.out.1]; exact hcap, by rw [← HN.out.1]; omega, HO.out.2.2⟩, HO.out.2.1⟩
def marks4 : ByteArray := ⟨#[85, 170, 85, 170]⟩
theorem str_marks4 (s : List Nat) : sB s ++ marks4 = str (s.length + 4) (fun i => ((cat4 s i : Nat) : Int)) := by
  have e : marks4 = strOfNums [85, 170, 85, 170] := by kernel_rfl
  rw [e]
  unfold sB str strOfNums
  obtain ⟨n, en⟩ : ∃ n, n = s.length := ⟨_, rfl⟩
  have h : (List.range (s.length + 4)).map (fun i => ((cat4 s i : Nat) : Int)) = (List.range s.length).map (fun i => ((gd s i : Nat) : Int)) ++ [85, 170, 85, 170] := by
    rw [← en, show n + 4 = n + 1 + 1 + 1 + 1 by omega, List.range_succ, List.range_succ, List.range_succ, List.range_succ]
    simp only [List.map_append, List.map_cons, List.map_nil, List.append_assoc, List.cons_append, List.nil_append]
    congr 1
    · refine List.map_congr_left (fun i hi => ?_)
      have : i < n := by simpa using hi
      unfold cat4
      rw [if_pos (by omega)]
    · have c0 : cat4 s n = 85 := by unfold cat4; rw [if_neg (by omega), en, Nat.sub_self]; rfl
      have c1 : cat4 s (n + 1) = 170 := by unfold cat4; rw [if_neg (by omega), en, Nat.add_sub_cancel_left]; rfl
      have c2 : cat4 s (n + 2) = 85 := by unfold cat4; rw [if_neg (by omega), en, Nat.add_sub_cancel_left]; rfl
      have c3 : cat4 s (n + 3) = 170 := by unfold cat4; rw [if_neg (by omega), en, Nat.add_sub_cancel_left]; rfl
      rw [c0, c1, c2, c3]
      rfl
  rw [h, List.map_append]
  apply ByteArray.ext
  simp
set_option maxRecDepth 100000 in
set_option maxHeartbeats 1600000 in
theorem aswas3_any {P : Nat → Prop} {w : World} {v u : Value} {s : List Nat} (h : Vb w v s) (hr : Ry P w u s) :
    Calls Try.prog 21 #[u, v] w fun e w' => e = .returned (.bool true) ∧ Below w.heap.size w w' := by
  obtain ⟨a, b, off, c, rfl, hv, -, hnil, hn⟩ := h
  obtain ⟨g, cap, rfl, hg, hcap, -, -⟩ := hr
  obtain ⟨n, en⟩ : ∃ n, n = s.length := ⟨_, rfl⟩
  have cv2 := fun q => convert_view (hv.drewN q) c
  have cv1 := fun q => convert_view (hg.drewN q) cap
  have sm := str_marks4 s
  have sz : (sB s).size = s.length := by unfold sB str; rw [strOfNums_size]; simp
  have cv2 : ∀ q, (convert 22 9 (.slice a s.length c)).run Try.prog (w.drewN q) = .ok (.string (sB s)) (w.drewN q) := cv2
  rw [← en] at hn hcap cv1 cv2 sm sz ⊢
  have k1 : (0 : Int) ≤ (n : Int) + 4 := by omega
  have k2 : (n : Int) + 4 ≤ (cap : Int) := by omega
  have k4 : IntKind.i64.wrap ((n : Int) + 4) = (n : Int) + 4 := by rw [IntKind.wrap_i64]; omega
  have k3 : ((n : Int) + 4).toNat = n + 4 := by omega
  have sl := sliceAt_upto (some ⟨g, 0, none⟩) n cap (n + 4) hcap
  rw [show (((n + 4 : Nat)) : Int) = (n : Int) + 4 by omega] at sl
  unfold marks4 at sm
  simp only [← sm] at cv1
  obtain ⟨s2, hs2⟩ : ∃ t, t = sB s := ⟨_, rfl⟩
  simp only [← hs2] at cv1 cv2
  rw [← hs2] at sz
  have k6 : s2.size + (ByteArray.mk #[85, 170, 85, 170]).size ≤ 9223372036854775807 := by rw [sz, show (ByteArray.mk #[85, 170, 85, 170]).size = 4 from rfl]; omega
  have k7 : s2.size + 4 ≤ 9223372036854775807 := k6
  clear hv hg sm hs2 sz en hnil
  go_enter Try.func21, Try.ntmps21
  go_wp2_with fail
  go_quiet (fail)
  go_wp2_with fail
  go_ret
  exact ⟨rfl, below_drewN (Below.refl _ _) _⟩
end Go.Proofs.Ytadcbhjmbgenbaa

/-
  cairnlaw07: refOf, nodeOf: a node in new memory, each list with marks behind it.
-/
namespace Go.Proofs.Ytadcbhjmbgenbaa
open Go.RowKit

theorem res1a {fn : Func} {p : Tmp} (h : fn.results = #[.cell p 26]) (tmps : Array Value) (w : World) (g : Nat) (r : Rf) (v : Value) (hr : r.h.length = 32) (hg : w.rangeAt g 0 (rcs r v)) (hp : tmps.getD p undef = .pointer (some ⟨g, 0, none⟩)) :
    (results fn tmps).run Try.prog w = .ok (.agg (rcs r v).toArray) w :=
  res1 h tmps w g _ hp (run_loadVar_mid w g 0 26 _ _ hg Try.underlying26 rfl (info_rcs hr v))
theorem res1n {fn : Func} {p : Tmp} (h : fn.results = #[.cell p 29]) (tmps : Array Value) (w : World) (g : Nat) (n : Nd) (u : Nv) (hr : n.W) (hg : w.rangeAt g 0 (nc n u)) (hp : tmps.getD p undef = .pointer (some ⟨g, 0, none⟩)) :
    (results fn tmps).run Try.prog w = .ok (.agg (nc n u).toArray) w :=
  res1 h tmps w g _ hp (run_loadVar_mid w g 0 29 _ _ hg Try.underlying29 rfl (info_nc hr u))
theorem rng_rv {w : World} {g : Nat} {r : Rf} {v : Value} (hh : r.h.length = 32) (h : w.rangeAt g 0 (rcs r v)) (ht : w.there g 0 34) (v' : Value) : (w.setCells g 33 [v']).rangeAt g 0 (rcs r v') := by
  have e : ∀ v, rcs r v = (.int .i64 r.k :: bv r.h) ++ [v] := fun v => rfl
  have hl : (Value.int .i64 r.k :: bv r.h).length = 33 := by simp [bv_len, hh]
  rw [e] at h ⊢
  refine rng_app (World.rangeAt_setCells_apart (rng_left h) g 33 _ (Or.inr (Or.inl (by rw [hl]; omega)))) ?_
  rw [hl]
  exact World.rangeAt_setCells_same _ _ _ _ (there_sub ht (by simp))
set_option maxRecDepth 100000 in
set_option maxHeartbeats 1600000 in
theorem lrefOf_any {w : World} {r : Rf} {v : Value} (hW : r.W) (hb : Vb w v r.b) : Calls Try.prog 37 #[.agg (rcs r v).toArray] w fun e w' => ∃ u, e = .returned (.agg (rcs r u).toArray) ∧ Ry (fun q => w.heap.size ≤ q) w' u r.b ∧ Below w.heap.size w w' := by
  have hz := zv26
  have B2 : Below w.heap.size w ((w.alloc (.cells (rcs r v).toArray 26)).alloc (.cells (rcs rz (.slice none 0 0)).toArray 26)) := (below_alloc _ _).alloc (by simp) _
  have K := roomy3_any (Rel.keep hb B2)
  have s2 : ((w.alloc (.cells (rcs r v).toArray 26)).alloc (.cells (rcs rz (.slice none 0 0)).toArray 26)).heap.size = w.heap.size + 2 := by simp
  have g0 : ((w.alloc (.cells (rcs r v).toArray 26)).alloc (.cells (rcs rz (.slice none 0 0)).toArray 26)).heap[w.heap.size]? = some (.cells (rcs r v).toArray 26 (0, 0)) := by
    rw [heap_alloc_old _ _ (by simp)]
    exact heap_alloc_new _ _
  have g1 : ((w.alloc (.cells (rcs r v).toArray 26)).alloc (.cells (rcs rz (.slice none 0 0)).toArray 26)).heap[w.heap.size + 1]? = some (.cells (rcs rz (.slice none 0 0)).toArray 26 (0, 0)) := by
    have := heap_alloc_new (w.alloc (.cells (rcs r v).toArray 26)) (.cells (rcs rz (.slice none 0 0)).toArray 26)
    simpa using this
  have hh := hW.1
  have c33 : ((w.alloc (.cells (rcs r v).toArray 26)).alloc (.cells (rcs rz (.slice none 0 0)).toArray 26)).cell? ⟨w.heap.size, 33, none⟩ = some v := by
    have := (rng_ref hh (rng_row g0)).2.2
    rw [Nat.zero_add] at this
    exact this
  have HG : Hid (Below w.heap.size w ((w.alloc (.cells (rcs r v).toArray 26)).alloc (.cells (rcs rz (.slice none 0 0)).toArray 26)) ∧ ((w.alloc (.cells (rcs r v).toArray 26)).alloc (.cells (rcs rz (.slice none 0 0)).toArray 26)).heap.size = w.heap.size + 2 ∧ ((w.alloc (.cells (rcs r v).toArray 26)).alloc (.cells (rcs rz (.slice none 0 0)).toArray 26)).heap[w.heap.size]? = some (.cells (rcs r v).toArray 26 (0, 0)) ∧ ((w.alloc (.cells (rcs r v).toArray 26)).alloc (.cells (rcs rz (.slice none 0 0)).toArray 26)).heap[w.heap.size + 1]? = some (.cells (rcs rz (.slice none 0 0)).toArray 26 (0, 0))) := ⟨B2, s2, g0, g1⟩
  obtain ⟨-, -, a, c, rfl⟩ : (∀ x ∈ r.b, x < 256) ∧ True ∧ ∃ a c, v = .slice a r.b.length c := by
    obtain ⟨a, b, off, c, rfl, hv, -⟩ := hb
    exact ⟨(vw_ok hv).2, trivial, a, c, rfl⟩
  generalize r.b.length = n at *
  clear B2 s2 g0 g1 hb hW
  go_enter Try.func37, Try.ntmps37
  go_wp2_with (first
    | (go_at_call 20; go_loud (refine K.mono ?_; rintro e w3 ⟨u3, rfl, ry3, b3⟩; have h0 := (b3.block w.heap.size (by rw [HG.out.2.1]; omega)).trans HG.out.2.2.1; have h1 := (b3.block (w.heap.size + 1) (by rw [HG.out.2.1]; omega)).trans HG.out.2.2.2; have th := there_row h0 34 (by rw [rcs_len hh]; omega); have t33 := th 33 (by omega); rw [Nat.zero_add] at t33; obtain ⟨ta, tb⟩ := t33; obtain ⟨y, ta⟩ := Option.isSome_iff_exists.1 ta; have rg := rng_rv hh (rng_row h0) th u3; have o3 : u3.oneCell' = true := vb_one ry3.vf.vb; obtain ⟨z, ez⟩ : ∃ z, z = rz := ⟨_, rfl⟩; rw [← ez] at h1; have zl : z.h.length = 32 := (by rw [ez]; exact z32_len); have h1s : (w3.setCell ⟨w.heap.size, 33, none⟩ u3).heap[w.heap.size + 1]? = some (.cells (rcs z (.slice none 0 0)).toArray 26 (0, 0)) := ((turn_setCells (F := fun q => q = w.heap.size) rfl [u3] 33 w3).block (w.heap.size + 1) (by have := b3.size; rw [HG.out.2.1] at this; omega) (by omega)).trans h1; have HY : Hid (Below w.heap.size w w3 ∧ Ry (fun q => w.heap.size + 2 ≤ q ∧ q < w3.heap.size) w3 u3 r.b ∧ w.heap.size + 2 ≤ w3.heap.size) := ⟨ch HG.out.1 b3, (by have q := ry3; rw [HG.out.2.1] at q; exact q), (by have q := b3.size; rw [HG.out.2.1] at q; exact q)⟩; have ry4 := ry3; obtain ⟨g3, cap3, e3, -⟩ := ry4; subst e3; clear ry3 b3 h0 h1 th K c33 ez))
    | refine wpList_ld26 (by kernel_rfl) _ (by rfl) _ _ _ _ hh rg (by rfl) ?_
    | refine wpList_st26b (by kernel_rfl) _ _ (by rfl) (w.heap.size + 1) r z _ (.slice none 0 0) hh zl o3 h1s (by rfl) (by rfl) ?_)
  obtain ⟨X, eX⟩ : ∃ X, X = w3.setCell ⟨w.heap.size, 33, none⟩ (.slice (some ⟨g3, 0, none⟩) r.b.length cap3) := ⟨_, rfl⟩
  rw [← eX] at h1s ⊢
  have hr3 := setRow_heap X (w.heap.size + 1) _ (rcs r (.slice (some ⟨g3, 0, none⟩) r.b.length cap3)).toArray _ _ h1s
  refine bodyPost_ret (res1a rfl _ _ (w.heap.size + 1) _ _ hh (rng_row hr3) rfl) rfl ?_
  have tt := turn_setCells (F := fun q => q = w.heap.size) rfl [Value.slice (some ⟨g3, 0, none⟩) r.b.length cap3] 33 w3
  have tt : Turn (fun q => q = w.heap.size) w3 X := by rw [eX]; exact tt
  refine ⟨_, rfl, ?_, below_setRow (HY.out.1.trans (tt.below (fun q e => by omega) (by have := HY.out.2.2; omega))) (by omega) _⟩
  refine (HY.out.2.1.same (fun i hi hl => ?_)).mono (fun i hi _ => by omega)
  rw [setRow_other _ _ _ _ (by omega)]
  exact tt.block i hl (by omega)
end Go.Proofs.Ytadcbhjmbgenbaa
