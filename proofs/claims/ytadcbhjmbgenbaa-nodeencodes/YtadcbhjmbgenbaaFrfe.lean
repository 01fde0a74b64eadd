import Derived.Test.YtadcbhjmbgenbaaFle
import Derived.Test.YtadcbhjmbgenbaaRoe
import Derived.Laws.CopyOwn
/-
  cairnref07: refOf.
-/
namespace Go.Proofs.Ytadcbhjmbgenbaa
open Go.RowKit

/-- what a hash is behind a copy -/
def hcp (t : List Nat) : List Nat := t.take 32 ++ z32.drop (t.take 32).length
theorem hcp_len (t : List Nat) : (hcp t).length = 32 := by
  unfold hcp
  rw [List.length_append, List.length_drop, z32_len, List.length_take]
  omega
theorem hcp_lt {t : List Nat} (h : ∀ x ∈ t, x < 256) : ∀ x ∈ hcp t, x < 256 := fun x hx => by
  rcases List.mem_append.1 hx with q | q
  · exact h x (List.mem_of_mem_take q)
  · exact z32_lt x (List.mem_of_mem_drop q)
theorem hcp_eq {t : List Nat} (h : t.length = 32) : hcp t = t := by
  unfold hcp
  rw [List.take_of_length_le (by omega), h, List.drop_eq_nil_of_le (by rw [z32_len]; omega), List.append_nil]
theorem hcp_splice (t : List Nat) : splice (bv z32) 0 (bv (t.take 32)) = bv (hcp t) := by
  unfold splice hcp
  rw [bv_app, bv_len, Nat.zero_add, List.take_zero, List.nil_append]
  congr 1
  unfold bv
  rw [List.map_drop]
theorem vb_own {w : World} {B : Nat} {v : Value} {s : List Nat} (h : w.ownsRow B 5 1 v s.length (bv s)) (hs : ∀ x ∈ s, x < 256) (hl : s.length ≤ 140737488351232) : Vb w v s := by
  exact (vf_of_own (P := fun _ => True) h hs hl (fun _ _ => trivial)).vb
theorem cp_src {w : World} {a : Option Addr} {b off : Nat} {t : List Nat} (hv : Vw w a b off t) (ht : 0 < t.length) (hb : b < w.heap.size) (o : Obj) : ∃ ad, a = some ad ∧ ∀ j v, (bv (t.take 32))[j]? = some v → (w.alloc o).cell? (ad.add j) = some v := by
  refine ⟨⟨b, off, none⟩, hv.at_ ht, fun j v h => ?_⟩
  have hj : j < (t.take 32).length := by rw [← bv_len]; exact (List.getElem?_eq_some_iff.1 h).1
  rw [bv_at hj] at h
  have hj2 : j < t.length := by rw [List.length_take] at hj; omega
  have e : gd (t.take 32) j = gd t j := by
    have := cut_gd (s := t) (a := 0) (e := 32) (i := j) (by rw [List.length_take] at hj; omega)
    simpa [cut] using this
  rw [e] at h
  rw [Go.WideShapes.add_plain, ← h, World.cell?_alloc_old _ _ _ (by show b ≠ w.heap.size; omega)]
  exact hv.cell j hj2
theorem built26_node (a : Option Addr) (n c : Nat) (s : List Nat) : Try.prog.built 26 [(0, .int .i64 2), (2, .slice a n c)] = some (rcs ⟨2, z32, s⟩ (.slice a n c)).toArray := by kernel_rfl
set_option maxRecDepth 100000 in
set_option maxHeartbeats 1600000 in
theorem rrefOf_any {w : World} {v : Value} {s : List Nat} (h : Vb w v s) (he : (ptF s).e ≤ s.length) :
    Calls Try.prog 57 #[v] w fun e w' => ∃ r u, e = .returned (.tuple #[.agg (rcs r u).toArray, .bool (rfO s).isSome]) ∧ r.W ∧ Vf (fun q => w.heap.size ≤ q) w' u r.b ∧ Below w.heap.size w w' ∧ ∀ q, rfO s = some q → r = q := by
  have hz := zv26
  have hz2 := zv24
  have K := rcontent_any (w := w.alloc (.cells (rcs rz (.slice none 0 0)).toArray 26)) (Rel.keep h (below_alloc _ _)) he
  have HK0 : Hid (Below w.heap.size w (w.alloc (.cells (rcs rz (.slice none 0 0)).toArray 26)) ∧ (w.alloc (.cells (rcs rz (.slice none 0 0)).toArray 26)).heap[w.heap.size]? = some (.cells (rcs rz (.slice none 0 0)).toArray 26 (0, 0))) := ⟨below_alloc _ _, heap_alloc_new _ _⟩
  have HB0 : ∀ x ∈ s, x < 256 := by
    obtain ⟨_, _, _, _, _, q, _⟩ := h
    exact (vw_ok q).2
  have hbd := ptF_bd HB0
  obtain ⟨t, et⟩ : ∃ t, t = cut s (ptF s).a (ptF s).e := ⟨_, rfl⟩
  obtain ⟨I, eI⟩ : ∃ I, I = ((ptF s).ok && !(ptF s).l) := ⟨_, rfl⟩
  have htl : t.length ≤ 268435800 := by rw [et, cut_len he]; omega
  have hsb := HB0
  have HTB : Hid (∀ x ∈ t, x < 256) := fun x hx => by rw [et] at hx; exact hsb x (cut_mem hx)
  obtain ⟨R, eR⟩ : ∃ R, R = rfO s := ⟨_, rfl⟩
  have HR : Hid (R = if I then (if t.length = 0 then some rz else if t.length = 32 then some ⟨1, t, []⟩ else none) else if s.length < 32 then some ⟨2, z32, s⟩ else none) := by
    show R = _
    rw [eR, et, eI]
    rfl
  rw [← et, ← eI] at K
  rw [← eR]
  obtain ⟨a, b2, off, c, rfl, hv, hc, hnil, hsl⟩ := h
  have HVV : Hid (∀ w', Below w.heap.size w w' → View w' a b2 off s.length (fun i => ((gd s i : Nat) : Int))) := fun w' k => hv.below k
  have HS : Hid ((a = none → c = 0) ∧ (∀ x ∈ s, x < 256) ∧ s.length ≤ 140737488351232) := ⟨hnil, hsb, hsl⟩
  obtain ⟨n, en⟩ : ∃ n, n = s.length := ⟨_, rfl⟩
  have HN : Hid (n = s.length) := en
  rw [← en] at K HR HVV hsl ⊢
  obtain ⟨m, em⟩ : ∃ m, m = t.length := ⟨_, rfl⟩
  have HM : Hid (m = t.length) := em
  rw [← em] at K HR htl
  clear hv hnil hc et eI eR he hbd hsb en em
  cases I with
  | false =>
    have j1 : decide ((n : Int) < 32) = R.isSome := by
      rw [HR.out, if_neg (by simp)]
      by_cases q : n < 32
      · rw [if_pos q, decide_eq_true (by omega)]; rfl
      · rw [if_neg q, decide_eq_false (by omega)]; rfl
    have HF : Hid (∀ q, R = some q → (⟨2, z32, s⟩ : Rf) = q) := fun q hq => by
      rw [HR.out, if_neg (by simp)] at hq
      split at hq
      · exact Option.some.inj hq
      · cases hq
    have HBD : Hid (∀ a3 c3, Try.prog.built 26 [(0, .int .i64 2), (2, .slice a3 n c3)] = some (rcs ⟨2, z32, s⟩ (.slice a3 n c3)).toArray) := fun a3 c3 => built26_node a3 n c3 s
    clear HR HTB HM
    go_enter Try.func57, Try.ntmps57
    go_wp2_with (first
      | (go_at_call 58; refine K.mono ?_; rintro e w3 ⟨u3, rfl, own3, b3⟩; have B3 := ch HK0.out.1 b3; have V3 := HVV.out _ (ch B3 (below_alloc w3 (.cells #[] 5))); have own0 := World.ownsRow_lit (base := w3.heap.size) (e := 5) (size := 1) w3 #[] 0 (Nat.le_refl _) (by decide) rfl; have HX : Hid (Below w.heap.size w w3 ∧ w3.heap[w.heap.size]? = some (.cells (rcs rz (.slice none 0 0)).toArray 26 (0, 0)) ∧ w.heap.size < w3.heap.size) := ⟨B3, (b3.block _ (by simp)).trans HK0.out.2, by have := b3.size; simp at this; omega⟩; clear own3 b3 B3 K)
      | (refine wpList_append_bytes (by rfl) (.tmp 14) (.tmp 15) (by rfl) w3.heap.size _ 0 _ (by rfl) own0 a b2 off n c _ (by rfl) V3 HS.out.1 (by omega) (by simp) ?_; intro v2 w2 own2 gr2 nn2; have own2 : w2.ownsRow w3.heap.size 5 1 v2 n (bv s) := (by rw [← vals_bv, ← HN.out]; simpa using own2); have b2' : Below w3.heap.size w3 w2 := (below_alloc w3 _).trans (grown_below gr2 own0 (Nat.le_refl _) (by simp)); obtain ⟨a4, c4, rfl⟩ := own_slice own2; have g4 := (b2'.block w.heap.size HX.out.2.2).trans HX.out.2.1; have bd := HBD.out a4 c4; have HZ : Hid (w2.ownsRow w3.heap.size 5 1 (.slice a4 n c4) n (bv s) ∧ Below w.heap.size w w2) := ⟨own2, ch HX.out.1 b2'⟩; clear own2 gr2 nn2 own0 V3 b2')
      | refine wpList_bdL (by kernel_rfl) _ _ (by rfl) _ bd ?_
      | refine wpList_st26b (by kernel_rfl) _ _ (by rfl) _ ⟨2, z32, s⟩ rz (.slice a4 n c4) (.slice none 0 0) z32_len z32_len (by rfl) g4 (by rfl) (by rfl) ?_)
    have hr3 := setRow_heap w2 w.heap.size _ (rcs ⟨2, z32, s⟩ (.slice a4 n c4)).toArray _ _ g4
    refine bodyPost_ret (res2a rfl _ _ w.heap.size _ _ _ z32_len (rng_row hr3) rfl rfl) rfl ?_
    refine ⟨⟨2, z32, s⟩, .slice a4 n c4, rfl, ⟨z32_len, z32_lt, HS.out.2.1⟩, ?_, below_setRow HZ.out.2 (Nat.le_refl _) _, HF.out⟩
    have := own_setRow HZ.out.1 (B' := w3.heap.size) HX.out.2.2 (Nat.le_refl _) (rcs ⟨2, z32, s⟩ (.slice a4 n c4)).toArray
    rw [HN.out] at this ⊢
    exact vf_of_own this HS.out.2.1 HS.out.2.2 (fun q hq => by have := (this.lt q hq).1; have := HX.out.2.2; omega)
  | true =>
    by_cases h0 : m = 0
    · have HF : Hid (R = some rz) := by show R = _; rw [HR.out, if_pos rfl, if_pos h0]
      subst h0
      clear HR HM
      go_enter Try.func57, Try.ntmps57
      go_wp2_with (first
        | (go_at_call 58; refine K.mono ?_; rintro e w3 ⟨u3, rfl, own3, b3⟩; obtain ⟨a3, c3, rfl⟩ := own_slice own3; have g3 := (b3.block w.heap.size (by simp)).trans HK0.out.2; have HX : Hid (Below w.heap.size w w3) := ch HK0.out.1 b3; clear own3 b3 K)
        | refine wpList_bd26 (by kernel_rfl) (by rfl) ?_
        | refine wpList_st26b (by kernel_rfl) _ _ (by rfl) _ rz rz (.slice none 0 0) (.slice none 0 0) z32_len z32_len (by rfl) g3 (by rfl) (by rfl) ?_)
      have hr3 := setRow_heap w3 w.heap.size _ (rcs rz (.slice none 0 0)).toArray _ _ g3
      refine bodyPost_ret (res2a rfl _ _ w.heap.size _ _ _ z32_len (rng_row hr3) rfl rfl) rfl ?_
      refine ⟨rz, .slice none 0 0, by rw [HF.out]; rfl, rz_w, vf_nil _ _, below_setRow HX.out (Nat.le_refl _) _, fun q hq => ?_⟩
      rw [HF.out] at hq
      exact Option.some.inj hq
    · have i0 : ¬ (m : Int) = 0 := by omega
      have i0b : ((m : Int) == 0) = false := by simpa using i0
      obtain ⟨hh, ehh⟩ : ∃ hh, hh = hcp t := ⟨_, rfl⟩
      have hhl : hh.length = 32 := by rw [ehh]; exact hcp_len t
      have HH : Hid (splice (bv z32) 0 (bv (t.take 32)) = bv hh ∧ (∀ x ∈ hh, x < 256) ∧ (t.length = 32 → hh = t)) := ⟨by rw [ehh]; exact hcp_splice t, by rw [ehh]; exact hcp_lt HTB.out, fun q => by rw [ehh]; exact hcp_eq q⟩
      have j1 : ((m : Int) == 32) = R.isSome := by
        rw [HR.out, if_pos rfl, if_neg h0]
        by_cases q : m = 32
        · rw [if_pos q, q]; rfl
        · rw [if_neg q]; simp; omega
      have HF : Hid (∀ q, R = some q → (⟨1, hh, []⟩ : Rf) = q) := fun q hq => by
        rw [HR.out, if_pos rfl, if_neg h0] at hq
        split at hq
        · rename_i q32
          rw [HH.out.2.2 (by rw [← HM.out]; exact q32)]
          exact Option.some.inj hq
        · cases hq
      have bd := built26_hash hh hhl
      obtain ⟨rb, erb⟩ : ∃ rb, rb = R.isSome := ⟨_, rfl⟩
      rw [← erb] at j1 ⊢
      obtain ⟨cs, ecs⟩ : ∃ cs, cs = bv (t.take 32) := ⟨_, rfl⟩
      have HCS : Hid (cs.length = Nat.min m 32 ∧ (∀ v ∈ cs, v.oneCell' = true) ∧ cs = bv (t.take 32)) := ⟨by rw [ecs, bv_len, List.length_take, Nat.min_comm, HM.out], by rw [ecs]; exact bv_one _, ecs⟩
      rw [← ecs] at HH
      clear HR ehh erb ecs
      go_enter Try.func57, Try.ntmps57
      go_wp2_with (first
        | (go_at_call 58; refine K.mono ?_; rintro e w3 ⟨u3, rfl, own3, b3⟩; rw [HM.out] at own3; obtain ⟨a5, g5, o5, c5, rfl, v5, l5, n5, m5, p5⟩ := vf_of_own (P := fun q => q < w3.heap.size) own3 HTB.out (by rw [← HM.out]; omega) (fun q hq => (own3.lt q hq).2); rw [← HM.out]; have HX : Hid (Below w.heap.size w w3 ∧ w3.heap[w.heap.size]? = some (.cells (rcs rz (.slice none 0 0)).toArray 26 (0, 0)) ∧ w.heap.size < w3.heap.size) := ⟨ch HK0.out.1 b3, (b3.block _ (by simp)).trans HK0.out.2, (by have := b3.size; simp at this; omega)⟩; have HPOS : Hid (∃ ad, a5 = some ad ∧ ∀ j v, cs[j]? = some v → (w3.alloc (.cells (bv z32).toArray 24)).cell? (ad.add j) = some v) := (by rw [HCS.out.2.2]; exact cp_src v5 (by rw [← HM.out]; omega) (p5 (by rw [← HM.out]; omega)) _); clear own3 b3 K v5 l5 n5 m5 p5)
        | (refine wpList_copy_splice (by rfl) (.tmp 25) (.tmp 26) 22 22 (by rfl) 5 Try.underlying22 info5size (some ⟨w3.heap.size, 0, none⟩) a5 32 32 m c5 (by rfl) (by rfl) w3.heap.size 0 (bv z32) 24 (heap_alloc_new _ _) cs HCS.out.1 (fun _ => ⟨rfl, HPOS.out⟩) (by rw [HCS.out.1, bv_len, z32_len, Nat.zero_add]; exact Nat.min_le_right _ _) HCS.out.2.1 w3.heap.size w3 (below_alloc _ _) (Nat.le_refl _) ?_; intro w6 hg6 b6; have hg6 := hg6.out; rw [HH.out.1] at hg6; have rg := rng_row hg6; have g6 := (b6.block w.heap.size HX.out.2.2).trans HX.out.2.1; have HY : Hid (Below w.heap.size w w6) := ch HX.out.1 b6; clear hg6 b6)
        | refine wpList_ld24 (by kernel_rfl) _ (by rfl) _ _ hh hhl rg (by rfl) ?_
        | refine wpList_bdL (by kernel_rfl) _ _ (by rfl) _ bd ?_
        | refine wpList_st26b (by kernel_rfl) _ _ (by rfl) _ ⟨1, hh, []⟩ rz (.slice none 0 0) (.slice none 0 0) hhl z32_len (by rfl) g6 (by rfl) (by rfl) ?_)
      have hr3 := setRow_heap w6 w.heap.size _ (rcs ⟨1, hh, []⟩ (.slice none 0 0)).toArray _ _ g6
      refine bodyPost_ret (res2a rfl _ _ w.heap.size _ _ _ hhl (rng_row hr3) rfl rfl) rfl ?_
      exact ⟨⟨1, hh, []⟩, .slice none 0 0, rfl, ⟨hhl, HH.out.2.1, fun x hx => by cases hx⟩, vf_nil _ _, below_setRow HY.out (Nat.le_refl _) _, HF.out⟩
end Go.Proofs.Ytadcbhjmbgenbaa
