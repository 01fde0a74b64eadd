import Derived.Test.YtpiinkfcaoaffaaIbzz
import Derived.Laws.StructEq
import Derived.Lib.Bytes
/-
  Encode, Check, num; strings compared.
-/
namespace Go.Proofs.Ytpiinkfcaoaffaa
open Go.RowKit
theorem nck_all (n : Nd) : Nck n := ⟨fun _ _ => ndecode_any _, fun _ _ _ _ => ndecode_any _⟩
/-- what Encode answers -/
def eN (n : Nd) : List Nat := if mayN KD n then encN n else []
def eE (n : Nd) : Nat := if mayN KD n then 0 else 70
set_option maxRecDepth 100000 in
set_option maxHeartbeats 1600000 in
theorem check_any {w : World} {n : Nd} {u : Nv} (h : Nin w n u) : Calls Try.prog 7 #[.agg (nc n u).toArray] w fun e w' => e = .returned (.int .i64 ((eE n : Nat) : Int)) ∧ Below w.heap.size w w' := by
  have B1 : Below w.heap.size w (w.alloc (.cells (nc n u).toArray 29)) := below_alloc _ _
  have hn := h.W
  have nb := nb_new hn w u
  have K := mayN_any (h.keep B1) (nck_all n)
  have HE : Hid (eE n = if mayN KD n then 0 else 70) := rfl
  obtain ⟨q, eq⟩ : ∃ q, q = mayN KD n := ⟨_, rfl⟩
  rw [← eq] at K
  have HQ : Hid (q = mayN KD n) := eq
  clear h eq
  cases q with
  | true =>
    go_enter Try.func7, Try.ntmps7
    go_wp2_with (first | refine wpList_ld29 (by kernel_rfl) _ (by rfl) _ _ _ hn nb (by rfl) ?_ | (go_at_call 15; refine K.mono ?_; rintro e w1 ⟨rfl, hb1⟩; have HB1 : Hid (Below w.heap.size w w1) := ch B1 hb1; clear hb1))
    go_ret
    rw [HE.out, ← HQ.out]
    exact ⟨rfl, HB1.out⟩
  | false =>
    go_enter Try.func7, Try.ntmps7
    go_wp2_with (first | refine wpList_ld29 (by kernel_rfl) _ (by rfl) _ _ _ hn nb (by rfl) ?_ | (go_at_call 15; refine K.mono ?_; rintro e w1 ⟨rfl, hb1⟩; have HB1 : Hid (Below w.heap.size w w1) := ch B1 hb1; clear hb1))
    go_ret
    rw [HE.out, ← HQ.out]
    exact ⟨rfl, HB1.out⟩
set_option maxRecDepth 100000 in
set_option maxHeartbeats 1600000 in
theorem nencode_any {w : World} {n : Nd} {u : Nv} (h : Nin w n u) : Calls Try.prog 6 #[.agg (nc n u).toArray] w fun e w' => ∃ v, e = .returned (.tuple #[v, .int .i64 ((eE n : Nat) : Int)]) ∧ Ans w w' v (eN n) := by
  have B1 : Below w.heap.size w (w.alloc (.cells (nc n u).toArray 29)) := below_alloc _ _
  have hn := h.W
  have nb := nb_new hn w u
  have K := mayN_any (h.keep B1) (nck_all n)
  have HE : Hid (eE n = (if mayN KD n then 0 else 70) ∧ eN n = if mayN KD n then encN n else []) := ⟨rfl, rfl⟩
  obtain ⟨q, eq⟩ : ∃ q, q = mayN KD n := ⟨_, rfl⟩
  rw [← eq] at K HE
  have HQ : Hid (q = mayN KD n) := eq
  have HH : Hid (Nin w n u ∧ Nb (w.alloc (.cells (nc n u).toArray 29)) w.heap.size n u) := ⟨h, nb⟩
  clear h eq
  cases q with
  | true =>
    have ni := ni_may hn HQ.out.symm
    have he := enc_ok ni.may ni.dp (by have := ni.len; omega)
    have HNI : Hid (NI n ∧ encE (nIt n) = 0 ∧ enc (nIt n) = encN n) := ⟨ni, he.1, he.2⟩
    obtain ⟨xl, exl⟩ : ∃ l, l = (nIt n).l := ⟨_, rfl⟩
    have HXL : Hid (xl = (nIt n).l) := exl
    have KI : Hid (∀ {w1 : World}, Below w.heap.size w w1 → Calls Try.prog 17 #[.agg (nc n u).toArray] w1 fun e w' => ∃ vb vi, e = .returned (iv xl vb vi) ∧ Lies Vb w' (nIt n) vb vi ∧ Below w1.heap.size w1 w') := fun {w1} k => by
      have := itemOf_any (HH.out.1.keep k)
      unfold IoPst at this
      rw [← HXL.out] at this
      exact this
    have KE : Hid (∀ {w1 : World} {vb vi : Value}, Lies Vb w1 (nIt n) vb vi → Calls Try.prog 16 #[iv xl vb vi] w1 fun e w' => ∃ v, e = .returned (.tuple #[v, .int .i64 0]) ∧ Str w' (fun i => w1.heap.size ≤ i) v (encN n) ∧ Below w1.heap.size w1 w') := fun {w1 vb vi} k => by
      have := encode_any _ _ _ _ k
      rw [← HXL.out, HNI.out.2.1, HNI.out.2.2] at this
      exact this
    clear ni he exl
    go_enter Try.func6, Try.ntmps6
    go_wp2_with (first
      | refine wpList_ld29 (by kernel_rfl) _ (by rfl) _ _ _ hn nb (by rfl) ?_
      | refine wpList_ld29 (by kernel_rfl) _ (by rfl) _ _ _ hn nb1 (by rfl) ?_
      | (go_at_call 15; refine K.mono ?_; rintro e w1 ⟨rfl, hb1⟩; have HB1 : Hid (Below w.heap.size w w1) := ch B1 hb1; have nb1 := HH.out.2.keep hb1; have K2 := KI.out HB1.out; clear hb1 nb K)
      | (go_at_call 17; refine K2.mono ?_; rintro e w2 ⟨vb, vi, rfl, hl, b2⟩; have HB2 : Hid (Below w.heap.size w w2) := ch HB1.out b2; have K3 := KE.out hl; obtain ⟨a1, n1, k1, a2, n2, k2, rfl, rfl⟩ := hl.form; clear hl b2 K2)
      | (go_at_call 16; refine K3.mono ?_; rintro e w3 ⟨v, rfl, hs, b3⟩; have HZ : Hid (Below w2.heap.size w2 w3 ∧ Str w3 (fun i => w2.heap.size ≤ i) v (encN n)) := ⟨b3, hs⟩; clear b3 hs K3))
    go_ret2
    refine ⟨v, by rw [HE.out.1]; rfl, ?_⟩
    rw [HE.out.2]
    have s2 := HB2.out.size
    have ho := own_of_str HZ.out.2
    exact ⟨own_rebase ho (fun q hq => by have := (ho.lt q hq).1; omega), HNI.out.1.byt, by have := HNI.out.1.len; show (encN n).length ≤ _; unfold encN; omega, ch HB2.out HZ.out.1⟩
  | false =>
    go_enter Try.func6, Try.ntmps6
    go_wp2_with (first | refine wpList_ld29 (by kernel_rfl) _ (by rfl) _ _ _ hn nb (by rfl) ?_ | (go_at_call 15; refine K.mono ?_; rintro e w1 ⟨rfl, hb1⟩; have HB1 : Hid (Below w.heap.size w w1) := ch B1 hb1; clear hb1))
    go_ret2
    refine ⟨_, by rw [HE.out.1]; rfl, ?_⟩
    rw [HE.out.2]
    exact ans_nil HB1.out
set_option maxRecDepth 100000 in
theorem num_any (w : World) (e : Int) : Calls Try.prog 9 #[.int .i64 e] w fun r w' => r = .returned (.int .i64 e) ∧ w' = w := by
  go_enter Try.func9, Try.ntmps9
  go_wp2_with fail
  go_ret
  exact ⟨rfl, rfl⟩
/-! ### strings -/
def sB (s : List Nat) : ByteArray := str s.length (fun i => ((gd s i : Nat) : Int))
theorem sB_inj {s t : List Nat} (hs : ∀ x ∈ s, x < 256) (ht : ∀ x ∈ t, x < 256) (h : sB s = sB t) : s = t := by
  have h1 : (sB s).data.toList = (sB t).data.toList := by rw [h]
  unfold sB str at h1
  rw [strOfNums_data, strOfNums_data] at h1
  have hl : s.length = t.length := by
    have := congrArg List.length h1
    simpa using this
  refine ext_gd hl (fun i hi => ?_)
  have h2 : (((List.range s.length).map (fun i => ((gd s i : Nat) : Int))).map fun n => UInt8.ofNat n.toNat)[i]? = (((List.range t.length).map (fun i => ((gd t i : Nat) : Int))).map fun n => UInt8.ofNat n.toNat)[i]? := by rw [h1]
  rw [List.getElem?_map, List.getElem?_map, List.getElem?_map, List.getElem?_map, List.getElem?_range hi, List.getElem?_range (by omega)] at h2
  have h3 : UInt8.ofNat (gd s i) = UInt8.ofNat (gd t i) := by simpa using h2
  have h4 := congrArg UInt8.toNat h3
  have a1 := gd_lt hs i
  have a2 := gd_lt ht i
  rw [UInt8.toNat_ofNat', UInt8.toNat_ofNat', Nat.mod_eq_of_lt (by omega), Nat.mod_eq_of_lt (by omega)] at h4
  exact h4
theorem sB_list (s : List Nat) : (sB s).toList = (sB s).data.toList := by
  unfold sB str
  exact Lib.strOfNums_toList _
theorem sB_ne {s t : List Nat} (hs : ∀ x ∈ s, x < 256) (ht : ∀ x ∈ t, x < 256) (h : s ≠ t) : sB s ≠ sB t ∧ ((sB s).toList == (sB t).toList) = false ∧ (sB s == sB t) = false := by
  have h1 : sB s ≠ sB t := fun e => h (sB_inj hs ht e)
  have h2 : ((sB s).toList == (sB t).toList) = false := by
    apply beq_eq_false_iff_ne.2
    intro e
    rw [sB_list, sB_list] at e
    exact h1 (ByteArray.ext (by rw [← Array.toList_inj]; exact e))
  exact ⟨h1, h2, by rw [beq_toListBytes]; exact h2⟩
theorem conv_vb {w : World} {v : Value} {s : List Nat} (h : Vb w v s) : (convert 22 9 v).run Try.prog w = .ok (.string (sB s)) w := by
  obtain ⟨a, b, off, c, rfl, hv, -⟩ := h
  exact convert_view hv c
theorem vb_byt {w : World} {v : Value} {s : List Nat} (h : Vb w v s) : ∀ x ∈ s, x < 256 := by
  obtain ⟨a, b, off, c, rfl, hv, -⟩ := h
  exact (vw_ok hv).2
end Go.Proofs.Ytpiinkfcaoaffaa
