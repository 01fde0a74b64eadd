import Derived.Test.YtepeolbbplodfaaGreatDoorFlq
import Derived.Test.YtepeolbbplodfaaGreatDoorFiq
import Derived.Laws.CopyOwn
import Derived.Test.YtepeolbbplodfaaGreatDoorFpsq
/-
  cairnref07: refOf.
-/
namespace Go.Proofs.YtepeolbbplodfaaGreatDoor
open Go.RowKit

/-- what a hash is behind a copy -/
def hcp (t : List Nat) : List Nat := t.take 32 ++ z32.drop (t.take 32).length
theorem hcp_len (t : List Nat) : (hcp t).length = 32 := by
  unfold hcp
  rw [List.length_append, List.length_drop, z32_len, List.length_take]
  omega
theorem hcp_lt {t : List Nat} (h : ∀ x ∈ t, x < 256) : ∀ x ∈ hcp t, x < 256 := fun x hx => by
  rcases List.mem_append.1 hx with q | q
  · exact h x (List.mem_of_mem_take q)
  · exact z32_lt x (List.mem_of_mem_drop q)
theorem hcp_eq {t : List Nat} (h : t.length = 32) : hcp t = t := by
  unfold hcp
  rw [List.take_of_length_le (by omega), h, List.drop_eq_nil_of_le (by rw [z32_len]; omega), List.append_nil]
theorem hcp_splice (t : List Nat) : splice (bv z32) 0 (bv (t.take 32)) = bv (hcp t) := by
  unfold splice hcp
  rw [bv_app, bv_len, Nat.zero_add, List.take_zero, List.nil_append]
  congr 1
  unfold bv
  rw [List.map_drop]
theorem vb_own {w : World} {B : Nat} {v : Value} {s : List Nat} (h : w.ownsRow B 5 1 v s.length (bv s)) (hs : ∀ x ∈ s, x < 256) (hl : s.length ≤ 140737488351232) : Vb w v s := by
  exact (vf_of_own (P := fun _ => True) h hs hl (fun _ _ => trivial)).vb
theorem cp_src {w : World} {a : Option Addr} {b off : Nat} {t : List Nat} (hv : Vw w a b off t) (ht : 0 < t.length) (hb : b < w.heap.size) (o : Obj) : ∃ ad, a = some ad ∧ ∀ j v, (bv (t.take 32))[j]? = some v → (w.alloc o).cell? (ad.add j) = some v := by
  refine ⟨⟨b, off, none⟩, hv.at_ ht, fun j v h => ?_⟩
  have hj : j < (t.take 32).length := by rw [← bv_len]; exact (List.getElem?_eq_some_iff.1 h).1
  rw [bv_at hj] at h
  have hj2 : j < t.length := by rw [List.length_take] at hj; omega
  have e : gd (t.take 32) j = gd t j := by
    have := cut_gd (s := t) (a := 0) (e := 32) (i := j) (by rw [List.length_take] at hj; omega)
    simpa [cut] using this
  rw [e] at h
  rw [Go.WideShapes.add_plain, ← h, World.cell?_alloc_old _ _ _ (by show b ≠ w.heap.size; omega)]
  exact hv.cell j hj2
theorem built26_node (a : Option Addr) (n c : Nat) (s : List Nat) : Tryz.prog.built 107 [(0, .int .i64 2), (2, .slice a n c)] = some (rcs ⟨2, z32, s⟩ (.slice a n c)).toArray := by kernel_rfl
set_option maxRecDepth 100000 in
set_option maxHeartbeats 1600000 in
theorem rrefOf_any {w : World} {v : Value} {s : List Nat} (h : Vb w v s) (he : (ptF s).e ≤ s.length) :
    Calls Tryz.prog 122 #[v] w fun e w' => ∃ r u, e = .returned (.tuple #[.agg (rcs r u).toArray, .bool (rfO s).isSome]) ∧ r.W ∧ Vf (fun q => w.heap.size ≤ q) w' u r.b ∧ Below w.heap.size w w' ∧ ∀ q, rfO s = some q → r = q := by
  have hz := zv26
  have hz2 := zv24
  have K := rcontent_any (w := w.alloc (.cells (rcs rz (.slice none 0 0)).toArray 107)) (Rel.keep h (below_alloc _ _)) he
  have HK0 : Hid (Below w.heap.size w (w.alloc (.cells (rcs rz (.slice none 0 0)).toArray 107)) ∧ (w.alloc (.cells (rcs rz (.slice none 0 0)).toArray 107)).heap[w.heap.size]? = some (.cells (rcs rz (.slice none 0 0)).toArray 107 (0, 0))) := ⟨below_alloc _ _, heap_alloc_new _ _⟩
  have HB0 : ∀ x ∈ s, x < 256 := by
    obtain ⟨_, _, _, _, _, q, _⟩ := h
    exact (vw_ok q).2
  have hbd := ptF_bd HB0
  obtain ⟨t, et⟩ : ∃ t, t = cut s (ptF s).a (ptF s).e := ⟨_, rfl⟩
  obtain ⟨I, eI⟩ : ∃ I, I = ((ptF s).ok && !(ptF s).l) := ⟨_, rfl⟩
  have htl : t.length ≤ 268435800 := by rw [et, cut_len he]; omega
  have hsb := HB0
  have HTB : Hid (∀ x ∈ t, x < 256) := fun x hx => by rw [et] at hx; exact hsb x (cut_mem hx)
  obtain ⟨R, eR⟩ : ∃ R, R = rfO s := ⟨_, rfl⟩
  have HR : Hid (R = if I then (if t.length = 0 then some rz else if t.length = 32 then some ⟨1, t, []⟩ else none) else if s.length < 32 then some ⟨2, z32, s⟩ else none) := by
    show R = _
    rw [eR, et, eI]
    rfl
  rw [← et, ← eI] at K
  rw [← eR]
  obtain ⟨a, b2, off, c, rfl, hv, hc, hnil, hsl⟩ := h
  have HVV : Hid (∀ w', Below w.heap.size w w' → View w' a b2 off s.length (fun i => ((gd s i : Nat) : Int))) := fun w' k => hv.below k
  have HS : Hid ((a = none → c = 0) ∧ (∀ x ∈ s, x < 256) ∧ s.length ≤ 140737488351232) := ⟨hnil, hsb, hsl⟩
  obtain ⟨n, en⟩ : ∃ n, n = s.length := ⟨_, rfl⟩
  have HN : Hid (n = s.length) := en
  rw [← en] at K HR HVV hsl ⊢
  obtain ⟨m, em⟩ : ∃ m, m = t.length := ⟨_, rfl⟩
  have HM : Hid (m = t.length) := em
  rw [← em] at K HR htl
  clear hv hnil hc et eI eR he hbd hsb en em
  cases I with
  | false =>
    have j1 : decide ((n : Int) < 32) = R.isSome := by
      rw [HR.out, if_neg (by simp)]
      by_cases q : n < 32
      · rw [if_pos q, decide_eq_true (by omega)]; rfl
      · rw [if_neg q, decide_eq_false (by omega)]; rfl
    have HF : Hid (∀ q, R = some q → (⟨2, z32, s⟩ : Rf) = q) := fun q hq => by
      rw [HR.out, if_neg (by simp)] at hq
      split at hq
      · exact Option.some.inj hq
      · cases hq
    have HBD : Hid (∀ a3 c3, Tryz.prog.built 107 [(0, .int .i64 2), (2, .slice a3 n c3)] = some (rcs ⟨2, z32, s⟩ (.slice a3 n c3)).toArray) := fun a3 c3 => built26_node a3 n c3 s
    clear HR HTB HM
    go_enter Tryz.func122, Tryz.ntmps122
    go_wp2_with (first
      | (go_at_call 123; refine K.mono ?_; rintro e w3 ⟨u3, rfl, own3, b3⟩; have B3 := ch HK0.out.1 b3; have V3 := HVV.out _ (ch B3 (below_alloc w3 (.cells #[] 5))); have own0 := World.ownsRow_lit (base := w3.heap.size) (e := 5) (size := 1) w3 #[] 0 (Nat.le_refl _) (by decide) rfl; have HX : Hid (Below w.heap.size w w3 ∧ w3.heap[w.heap.size]? = some (.cells (rcs rz (.slice none 0 0)).toArray 107 (0, 0)) ∧ w.heap.size < w3.heap.size) := ⟨B3, (b3.block _ (by simp)).trans HK0.out.2, by have := b3.size; simp at this; omega⟩; clear own3 b3 B3 K)
      | (refine wpList_append_bytes (by rfl) (.tmp 14) (.tmp 15) (by rfl) w3.heap.size _ 0 _ (by rfl) own0 a b2 off n c _ (by rfl) V3 HS.out.1 (by omega) (by simp) ?_; intro v2 w2 own2 gr2 nn2; have own2 : w2.ownsRow w3.heap.size 5 1 v2 n (bv s) := (by rw [← vals_bv, ← HN.out]; simpa using own2); have b2' : Below w3.heap.size w3 w2 := (below_alloc w3 _).trans (grown_below gr2 own0 (Nat.le_refl _) (by simp)); obtain ⟨a4, c4, rfl⟩ := own_slice own2; have g4 := (b2'.block w.heap.size HX.out.2.2).trans HX.out.2.1; have bd := HBD.out a4 c4; have HZ : Hid (w2.ownsRow w3.heap.size 5 1 (.slice a4 n c4) n (bv s) ∧ Below w.heap.size w w2) := ⟨own2, ch HX.out.1 b2'⟩; clear own2 gr2 nn2 own0 V3 b2')
      | refine wpList_bdL (by kernel_rfl) _ _ (by rfl) _ bd ?_
      | refine wpList_st26b (by kernel_rfl) _ _ (by rfl) _ ⟨2, z32, s⟩ rz (.slice a4 n c4) (.slice none 0 0) z32_len z32_len (by rfl) g4 (by rfl) (by rfl) ?_)
    have hr3 := setRow_heap w2 w.heap.size _ (rcs ⟨2, z32, s⟩ (.slice a4 n c4)).toArray _ _ g4
    refine bodyPost_ret (res2a rfl _ _ w.heap.size _ _ _ z32_len (rng_row hr3) rfl rfl) rfl ?_
    refine ⟨⟨2, z32, s⟩, .slice a4 n c4, rfl, ⟨z32_len, z32_lt, HS.out.2.1⟩, ?_, below_setRow HZ.out.2 (Nat.le_refl _) _, HF.out⟩
    have := own_setRow HZ.out.1 (B' := w3.heap.size) HX.out.2.2 (Nat.le_refl _) (rcs ⟨2, z32, s⟩ (.slice a4 n c4)).toArray
    rw [HN.out] at this ⊢
    exact vf_of_own this HS.out.2.1 HS.out.2.2 (fun q hq => by have := (this.lt q hq).1; have := HX.out.2.2; omega)
  | true =>
    by_cases h0 : m = 0
    · have HF : Hid (R = some rz) := by show R = _; rw [HR.out, if_pos rfl, if_pos h0]
      subst h0
      clear HR HM
      go_enter Tryz.func122, Tryz.ntmps122
      go_wp2_with (first
        | (go_at_call 123; refine K.mono ?_; rintro e w3 ⟨u3, rfl, own3, b3⟩; obtain ⟨a3, c3, rfl⟩ := own_slice own3; have g3 := (b3.block w.heap.size (by simp)).trans HK0.out.2; have HX : Hid (Below w.heap.size w w3) := ch HK0.out.1 b3; clear own3 b3 K)
        | refine wpList_bd26 (by kernel_rfl) (by rfl) ?_
        | refine wpList_st26b (by kernel_rfl) _ _ (by rfl) _ rz rz (.slice none 0 0) (.slice none 0 0) z32_len z32_len (by rfl) g3 (by rfl) (by rfl) ?_)
      have hr3 := setRow_heap w3 w.heap.size _ (rcs rz (.slice none 0 0)).toArray _ _ g3
      refine bodyPost_ret (res2a rfl _ _ w.heap.size _ _ _ z32_len (rng_row hr3) rfl rfl) rfl ?_
      refine ⟨rz, .slice none 0 0, by rw [HF.out]; rfl, rz_w, vf_nil _ _, below_setRow HX.out (Nat.le_refl _) _, fun q hq => ?_⟩
      rw [HF.out] at hq
      exact Option.some.inj hq
    · have i0 : ¬ (m : Int) = 0 := by omega
      have i0b : ((m : Int) == 0) = false := by simpa using i0
      obtain ⟨hh, ehh⟩ : ∃ hh, hh = hcp t := ⟨_, rfl⟩
      have hhl : hh.length = 32 := by rw [ehh]; exact hcp_len t
      have HH : Hid (splice (bv z32) 0 (bv (t.take 32)) = bv hh ∧ (∀ x ∈ hh, x < 256) ∧ (t.length = 32 → hh = t)) := ⟨by rw [ehh]; exact hcp_splice t, by rw [ehh]; exact hcp_lt HTB.out, fun q => by rw [ehh]; exact hcp_eq q⟩
      have j1 : ((m : Int) == 32) = R.isSome := by
        rw [HR.out, if_pos rfl, if_neg h0]
        by_cases q : m = 32
        · rw [if_pos q, q]; rfl
        · rw [if_neg q]; simp; omega
      have HF : Hid (∀ q, R = some q → (⟨1, hh, []⟩ : Rf) = q) := fun q hq => by
        rw [HR.out, if_pos rfl, if_neg h0] at hq
        split at hq
        · rename_i q32
          rw [HH.out.2.2 (by rw [← HM.out]; exact q32)]
          exact Option.some.inj hq
        · cases hq
      have bd := built26_hash hh hhl
      obtain ⟨rb, erb⟩ : ∃ rb, rb = R.isSome := ⟨_, rfl⟩
      rw [← erb] at j1 ⊢
      obtain ⟨cs, ecs⟩ : ∃ cs, cs = bv (t.take 32) := ⟨_, rfl⟩
      have HCS : Hid (cs.length = Nat.min m 32 ∧ (∀ v ∈ cs, v.oneCell' = true) ∧ cs = bv (t.take 32)) := ⟨by rw [ecs, bv_len, List.length_take, Nat.min_comm, HM.out], by rw [ecs]; exact bv_one _, ecs⟩
      rw [← ecs] at HH
      clear HR ehh erb ecs
      go_enter Tryz.func122, Tryz.ntmps122
      go_wp2_with (first
        | (go_at_call 123; refine K.mono ?_; rintro e w3 ⟨u3, rfl, own3, b3⟩; rw [HM.out] at own3; obtain ⟨a5, g5, o5, c5, rfl, v5, l5, n5, m5, p5⟩ := vf_of_own (P := fun q => q < w3.heap.size) own3 HTB.out (by rw [← HM.out]; omega) (fun q hq => (own3.lt q hq).2); rw [← HM.out]; have HX : Hid (Below w.heap.size w w3 ∧ w3.heap[w.heap.size]? = some (.cells (rcs rz (.slice none 0 0)).toArray 107 (0, 0)) ∧ w.heap.size < w3.heap.size) := ⟨ch HK0.out.1 b3, (b3.block _ (by simp)).trans HK0.out.2, (by have := b3.size; simp at this; omega)⟩; have HPOS : Hid (∃ ad, a5 = some ad ∧ ∀ j v, cs[j]? = some v → (w3.alloc (.cells (bv z32).toArray 31)).cell? (ad.add j) = some v) := (by rw [HCS.out.2.2]; exact cp_src v5 (by rw [← HM.out]; omega) (p5 (by rw [← HM.out]; omega)) _); clear own3 b3 K v5 l5 n5 m5 p5)
        | (refine wpList_copy_splice (by rfl) (.tmp 25) (.tmp 26) 33 33 (by rfl) 5 Tryz.underlying33 info5size (some ⟨w3.heap.size, 0, none⟩) a5 32 32 m c5 (by rfl) (by rfl) w3.heap.size 0 (bv z32) 31 (heap_alloc_new _ _) cs HCS.out.1 (fun _ => ⟨rfl, HPOS.out⟩) (by rw [HCS.out.1, bv_len, z32_len, Nat.zero_add]; exact Nat.min_le_right _ _) HCS.out.2.1 w3.heap.size w3 (below_alloc _ _) (Nat.le_refl _) ?_; intro w6 hg6 b6; have hg6 := hg6.out; rw [HH.out.1] at hg6; have rg := rng_row hg6; have g6 := (b6.block w.heap.size HX.out.2.2).trans HX.out.2.1; have HY : Hid (Below w.heap.size w w6) := ch HX.out.1 b6; clear hg6 b6)
        | refine wpList_ld24 (by kernel_rfl) _ (by rfl) _ _ hh hhl rg (by rfl) ?_
        | refine wpList_bdL (by kernel_rfl) _ _ (by rfl) _ bd ?_
        | refine wpList_st26b (by kernel_rfl) _ _ (by rfl) _ ⟨1, hh, []⟩ rz (.slice none 0 0) (.slice none 0 0) hhl z32_len (by rfl) g6 (by rfl) (by rfl) ?_)
      have hr3 := setRow_heap w6 w.heap.size _ (rcs ⟨1, hh, []⟩ (.slice none 0 0)).toArray _ _ g6
      refine bodyPost_ret (res2a rfl _ _ w.heap.size _ _ _ hhl (rng_row hr3) rfl rfl) rfl ?_
      exact ⟨⟨1, hh, []⟩, .slice none 0 0, rfl, ⟨hhl, HH.out.2.1, fun x hx => by cases hx⟩, vf_nil _ _, below_setRow HY.out (Nat.le_refl _) _, HF.out⟩
end Go.Proofs.YtepeolbbplodfaaGreatDoor

/-
  cairnref07: a branch being read.
-/
namespace Go.Proofs.YtepeolbbplodfaaGreatDoor
open Go.RowKit

theorem own_cells {w : World} {B e n : Nat} {a : Option Addr} {c : Nat} {xs : List Value} (h : w.ownsRow B e 1 (.slice a n c) n xs) (h0 : 0 < n) :
    ∃ g, a = some ⟨g, 0, none⟩ ∧ B ≤ g ∧ g < w.heap.size ∧ ∀ j v, xs[j]? = some v → w.cell? ⟨g, j, none⟩ = some v := by
  have hlt := h.lt
  have hcs := h
  rcases h.2 with ⟨e, hz⟩ | ⟨g, cap, cur, e, hB, hg, hc', hm, hsz, htk⟩
  · omega
  · injection e with e1 e2 e3
    subst e1
    refine ⟨g, rfl, (hlt g rfl).1, (hlt g rfl).2, fun j v hj => ?_⟩
    have := hcs.cells (g := g) rfl j _ hj
    rw [add_flat] at this
    exact this
/-- a branch in the block behind w2, with i kids -/
structure Lb (w2 wr : World) (pl : List (List Nat)) (i : Nat) (l : List Rf) (k : Nat → Value) : Prop where
  len : l.length = i
  rng : wr.rangeAt w2.heap.size 0 (nc ⟨3, [], [], false, rz, l ++ List.replicate (16 - i) rz⟩ ⟨.slice none 0 0, .slice none 0 0, .slice none 0 0, k⟩)
  thr : wr.there w2.heap.size 0 582
  it : ∀ (j : Nat) (x : List Nat) (r : Rf), pl[j]? = some x → l[j]? = some r → rfO x = some r
  w : ∀ r ∈ l, r.W
  kv : ∀ (j : Nat) (r : Rf), l[j]? = some r → Vf (fun q => w2.heap.size < q) wr (k j) r.b
  nil : ∀ j, i ≤ j → k j = .slice none 0 0
  below : Below w2.heap.size w2 wr
  hs : w2.heap.size < wr.heap.size
theorem Lb.W {w2 wr : World} {pl : List (List Nat)} {i : Nat} {l : List Rf} {k : Nat → Value} (h : Lb w2 wr pl i l k) (hi : i ≤ 16) {V : List Nat} (hV : ∀ x ∈ V, x < 256) (f : Bool) : (⟨3, [], V, f, rz, l ++ List.replicate (16 - i) rz⟩ : Nd).W :=
  ⟨by show (l ++ List.replicate (16 - i) rz).length = 16; rw [List.length_append, List.length_replicate, h.len]; omega, rz_w, fun r hr => by
    rcases List.mem_append.1 hr with q | q
    · exact h.w r q
    · rw [List.eq_of_mem_replicate q]; exact rz_w, fun x hx => (by cases hx), hV⟩
theorem Lb.next {w2 wr w3 : World} {pl : List (List Nat)} {i : Nat} {l : List Rf} {k : Nat → Value} {x : List Nat} {r : Rf} {v : Value} (h : Lb w2 wr pl i l k) (hi : i < 16)
    (hx : pl[i]? = some x) (hr : rfO x = some r) (hW : r.W) (b3 : Below wr.heap.size wr w3) (hv : Vf (fun q => wr.heap.size ≤ q) w3 v r.b) :
    Lb w2 (w3.setCells w2.heap.size (38 + i * 34) (rcs r v)) pl (i + 1) (l ++ [r]) (fun m => if m = i then v else k m) := by
  have tt := turn_setCells (F := fun q => q = w2.heap.size) rfl (rcs r v) (38 + i * 34) w3
  have hs := size_setCells w2.heap.size (rcs r v) (38 + i * 34) w3
  have s3 := b3.size
  have hg := h.hs
  have hget : ∀ {j : Nat} {q : Rf}, (l ++ [r])[j]? = some q → (j < i ∧ l[j]? = some q) ∨ (j = i ∧ q = r) := fun {j q} hj => by
    by_cases e : j < i
    · left
      rw [List.getElem?_append_left (by rw [h.len]; exact e)] at hj
      exact ⟨e, hj⟩
    · right
      have hj' := (List.getElem?_eq_some_iff.1 hj).1
      rw [List.length_append, h.len] at hj'
      have e2 : j = i := by simp at hj'; omega
      subst e2
      rw [List.getElem?_append_right (by rw [h.len]; omega), h.len, Nat.sub_self] at hj
      simp at hj
      exact ⟨rfl, hj.symm⟩
  refine ⟨by rw [List.length_append, h.len]; rfl, ?_, World.there_setCells (there_same h.thr (b3.block _ hg)) _ _ _, fun j y q hy hq => ?_, fun q hq => ?_, fun j q hq => ?_, fun j hj => ?_, ?_, by rw [hs]; omega⟩
  · have := rng_set (h.W (by omega) (V := []) (by intro x hx; cases hx) false) (rng_same h.rng (b3.block _ hg)) hi (r := r) (v := v) hW.1 (there_same h.thr (b3.block _ hg))
    have e : (l ++ List.replicate (16 - i) rz).set i r = (l ++ [r]) ++ List.replicate (16 - (i + 1)) rz := by
      rw [List.set_append_right _ _ (by rw [h.len]; omega), h.len, Nat.sub_self, show 16 - i = (16 - (i + 1)) + 1 by omega, List.replicate_succ, List.set_cons_zero, List.append_assoc]
      rfl
    rw [← e]
    exact this
  · rcases hget hq with ⟨_, hq'⟩ | ⟨rfl, rfl⟩
    · exact h.it j y q hy hq'
    · rw [hx] at hy
      cases hy
      exact hr
  · rcases List.mem_append.1 hq with q' | q'
    · exact h.w q q'
    · rw [List.mem_singleton.1 q']; exact hW
  · rcases hget hq with ⟨hj, hq'⟩ | ⟨rfl, rfl⟩
    · simp only [if_neg (show ¬ j = i by omega)]
      exact (h.kv j q hq').same (fun z hz hl => by rw [tt.block z (by omega) (by omega), b3.block z hl])
    · simp only [if_true]
      exact (hv.mono (Q := fun q => w2.heap.size < q) (fun z hz _ => by omega)).same (fun z hz hl => tt.block z hl (by omega))
  · simp only [if_neg (show ¬ j = i by omega)]
    exact h.nil j (by omega)
  · exact h.below.trans ((b3.mono (by omega)).trans (tt.below (fun q e => by omega) (by omega)))
/-- the lists of a branch that is being read -/
theorem Lb.nin {w2 wr w' : World} {pl : List (List Nat)} {i : Nat} {l : List Rf} {k : Nat → Value} (h : Lb w2 wr pl i l k) (hi : i ≤ 16) {V : List Nat} {f : Bool} {v : Value} (hv : Vb w' v V) (hk : ∀ q, w2.heap.size < q → q < wr.heap.size → w'.heap[q]? = wr.heap[q]?) :
    Nin w' ⟨3, [], V, f, rz, l ++ List.replicate (16 - i) rz⟩ ⟨.slice none 0 0, v, .slice none 0 0, k⟩ := by
  have hV : ∀ x ∈ V, x < 256 := by
    obtain ⟨_, _, _, _, _, q, _⟩ := hv
    exact (vw_ok q).2
  refine ⟨h.W hi hV f, vb_nil _, hv, vb_nil _, fun {j r} hr => ?_⟩
  have hr : (l ++ List.replicate (16 - i) rz)[j]? = some r := hr
  by_cases e : j < i
  · rw [List.getElem?_append_left (by rw [h.len]; exact e)] at hr
    exact ((h.kv j r hr).same (fun z hz hl => hk z hz hl)).vb
  · rw [List.getElem?_append_right (by rw [h.len]; omega)] at hr
    rw [List.eq_of_mem_replicate (List.mem_of_getElem? hr)]
    show Vb w' (k j) []
    rw [h.nil j (by omega)]
    exact vb_nil _
theorem rng_fill {w : World} {g : Nat} {l : List Rf} {k : Nat → Value} (h : w.rangeAt g 0 (nc ⟨3, [], [], false, rz, l⟩ ⟨.slice none 0 0, .slice none 0 0, .slice none 0 0, k⟩)) (ht : w.there g 0 582) (V : List Nat) (f : Bool) (v : Value) :
    (w.setCells g 2 [v, .bool f]).rangeAt g 0 (nc ⟨3, [], V, f, rz, l⟩ ⟨.slice none 0 0, v, .slice none 0 0, k⟩) := by
  have e : ∀ V f v, nc ⟨3, [], V, f, rz, l⟩ ⟨.slice none 0 0, v, .slice none 0 0, k⟩ = [Value.int .i64 3, .slice none 0 0] ++ ([v, .bool f] ++ (rcs rz (.slice none 0 0) ++ kcs l k)) := fun _ _ _ => rfl
  rw [e] at h ⊢
  have h2 := rng_right (rng_right h)
  refine rng_app (World.rangeAt_setCells_apart (rng_left h) g 2 _ (Or.inr (Or.inl (Nat.le_refl _)))) (rng_app (World.rangeAt_setCells_same _ _ _ _ (there_sub ht (by simp))) (World.rangeAt_setCells_apart h2 g 2 _ (Or.inr (Or.inr (by simp)))))
theorem rfs_of {xs : List (List Nat)} : ∀ {l : List Rf}, l.length = xs.length → (∀ (i : Nat) (x : List Nat) (r : Rf), xs[i]? = some x → l[i]? = some r → rfO x = some r) → rfs xs = some l := by
  induction xs with
  | nil => intro l h _; rw [List.eq_nil_of_length_eq_zero h]; rfl
  | cons a t ih =>
    intro l h k
    cases l with
    | nil => simp at h
    | cons r l =>
      rw [rfs, k 0 a r rfl rfl, ih (by simpa using h) (fun i x q hx hq => k (i + 1) x q (by simpa using hx) (by simpa using hq))]
theorem rfs_none {xs : List (List Nat)} {i : Nat} {x : List Nat} (h : xs[i]? = some x) (hx : rfO x = none) : rfs xs = none := by
  induction xs generalizing i with
  | nil => simp at h
  | cons a t ih =>
    rw [rfs]
    cases i with
    | zero => simp at h; subst h; rw [hx]
    | succ i =>
      cases ha : rfO a with
      | none => rfl
      | some r => rw [ih (by simpa using h)]
end Go.Proofs.YtepeolbbplodfaaGreatDoor

/-
  cairnref07: loose.
-/
namespace Go.Proofs.YtepeolbbplodfaaGreatDoor
open Go.RowKit

/-- a node's lists lie in blocks of which P holds -/
structure Ng (P : Nat → Prop) (w : World) (n : Nd) (u : Nv) : Prop where
  W : n.W
  p : Vf P w u.p n.path
  v : Vf P w u.v n.val
  x : Vf P w u.x n.next.b
  k : ∀ {i : Nat} {r : Rf}, n.kids[i]? = some r → Vf P w (u.k i) r.b
theorem Ng.nin {P : Nat → Prop} {w : World} {n : Nd} {u : Nv} (h : Ng P w n u) : Nin w n u := ⟨h.W, h.p.vb, h.v.vb, h.x.vb, fun hr => (h.k hr).vb⟩
theorem Ng.same {P : Nat → Prop} {w w' : World} {n : Nd} {u : Nv} (h : Ng P w n u) (k : ∀ i, P i → i < w.heap.size → w'.heap[i]? = w.heap[i]?) : Ng P w' n u := ⟨h.W, h.p.same k, h.v.same k, h.x.same k, fun hr => (h.k hr).same k⟩
theorem ng_zero (P : Nat → Prop) (w : World) : Ng P w nz uz := ⟨nz_w, vf_nil _ _, vf_nil _ _, vf_nil _ _, fun hr => by rw [kz_eq (List.mem_of_getElem? hr)]; exact vf_nil _ _⟩
def LsPst (s : List Nat) (w : World) (e : Ending) (w' : World) : Prop :=
  ∃ n u, e = .returned (.tuple #[.agg (nc n u).toArray, .bool (lzN s).isSome]) ∧ Ng (fun q => w.heap.size ≤ q) w' n u ∧ Below w.heap.size w w' ∧ ∀ q, lzN s = some q → n = q
theorem built29_b3 : Tryz.prog.built 110 [(0, .int .i64 3)] = some (nc ⟨3, [], [], false, rz, kz⟩ uz).toArray := by kernel_rfl
theorem n3_w : (⟨3, [], [], false, rz, kz⟩ : Nd).W := ⟨kz_len, rz_w, kz_w', fun x hx => (by cases hx), fun x hx => (by cases hx)⟩
/-- the pieces of the bytes -/
structure Pcs (w w' : World) (gp : Nat) (cap : Nat) (u : Value) (ps : List (Nat × Nat)) (pl : List (List Nat)) : Prop where
  form : u = .slice (some ⟨gp, 0, none⟩) ps.length cap
  cell : ∀ (j : Nat) (x : List Nat) (w2 : World), Below w'.heap.size w' w2 → pl[j]? = some x → ∃ v, w2.cell? ⟨gp, j, none⟩ = some v ∧ Vb w2 v x ∧ (ptF x).e ≤ x.length ∧ x.length ≤ 140737488351232
theorem pcs_of {w w' : World} {u : Value} {a : Option Addr} {b off c : Nat} {s : List Nat} {ps : List (Nat × Nat)} (hv : Vw w a b off s) (hc : s.length ≤ c) (hnil : a = none → c = 0) (hl : s.length ≤ 140737488351232) (hp : prts s = some ps)
    (ho : w'.ownsRow w.heap.size 33 1 u ps.length (pvS a c ps)) (hb : Below w.heap.size w w') (h0 : 0 < ps.length) : ∃ gp cap, Pcs w w' gp cap u ps (pcs s ps) := by
  obtain ⟨a2, c2, rfl⟩ := own_slice ho
  obtain ⟨g, rfl, h1, h2, h3⟩ := own_cells ho h0
  refine ⟨g, c2, rfl, fun j x w2 b2 hx => ?_⟩
  unfold pcs at hx
  rw [List.getElem?_map] at hx
  cases hj : ps[j]? with
  | none => rw [hj] at hx; cases hx
  | some p =>
    rw [hj] at hx
    cases hx
    obtain ⟨k1, k2, k3, k4, k5⟩ := prts_ok hp p (List.mem_of_getElem? hj)
    have e : (cut s p.1 p.2).length = p.2 - p.1 := cut_len k3
    obtain ⟨q1, q2⟩ := vb_cut hv hc hnil hl (Nat.le_of_lt k2) k3
    refine ⟨.slice (behind a c p.1) (p.2 - p.1) (c - p.1), ?_, ⟨_, b, off + p.1, c - p.1, by rw [e], q1.below (ch hb b2), by rw [e]; omega, q2, by rw [e]; omega⟩, by rw [k5, e]; exact Nat.le_refl _, by rw [e]; omega⟩
    have := h3 j (.slice (behind a c p.1) (p.2 - p.1) (c - p.1)) (by unfold pvS; rw [List.getElem?_map, hj]; rfl)
    rw [b2.cell (p := ⟨g, j, none⟩) h2]
    exact this
set_option maxRecDepth 100000 in
set_option maxHeartbeats 3200000 in
theorem rloose_none {w : World} {v : Value} {s : List Nat} (h : Vb w v s) (hps : lzN s = none) (hp : ∀ ps, prts s = some ps → ¬ ps.length = 17 ∧ ¬ ps.length = 2) : Calls Tryz.prog 100 #[v] w (LsPst s w) := by
  have hz := zv29
  obtain ⟨a, b2, off, c, rfl, hv, hc, hnil, hsl⟩ := h
  have K := rparts_any (w := w.alloc (.cells (nc nz uz).toArray 110)) (hv.below (below_alloc _ _)) hc hnil hsl
  obtain ⟨R, eR⟩ : ∃ R, R = prts s := ⟨_, rfl⟩
  rw [← eR] at K hp
  have HL : Hid (lzN s = none) := hps
  have HK0 : Hid (Below w.heap.size w (w.alloc (.cells (nc nz uz).toArray 110)) ∧ (w.alloc (.cells (nc nz uz).toArray 110)).heap[w.heap.size]? = some (.cells (nc nz uz).toArray 110 (0, 0))) := ⟨below_alloc _ _, heap_alloc_new _ _⟩
  have one := (nin_zero w).one
  obtain ⟨n, en⟩ : ∃ n, n = s.length := ⟨_, rfl⟩
  rw [← en] at K ⊢
  clear hv hc hnil hsl eR hps en
  obtain ⟨zz, ezz⟩ : ∃ z, z = nz := ⟨_, rfl⟩
  obtain ⟨uu, euu⟩ : ∃ z, z = uz := ⟨_, rfl⟩
  have HZ : Hid (zz = nz ∧ uu = uz) := ⟨ezz, euu⟩
  have zW : zz.W := by rw [ezz]; exact nz_w
  rw [← ezz, ← euu] at K HK0 one hz
  have bdz : ∀ w, (Instr.build 110 #[]).run Tryz.prog w = .ok (.agg (nc zz uu).toArray) w := by rw [ezz, euu]; exact fun w => run_build w _ _ _ (by kernel_rfl)
  clear ezz euu
  cases R with
  | none =>
    go_enter Tryz.func100, Tryz.ntmps100
    go_wp2_with (first
      | (go_at_call 121; refine K.mono ?_; rintro e w3 ⟨u3, rfl, own3, b3⟩; have g3 := (b3.block w.heap.size (by simp)).trans HK0.out.2; have HX : Hid (Below w.heap.size w w3) := ch HK0.out.1 b3; clear own3 b3 K)
      | refine wpList_st29b (by kernel_rfl) _ _ (by rfl) w.heap.size zz zz uu uu zW zW one g3 (by rfl) (by rfl) ?_)
    have hr3 := setRow_heap w3 w.heap.size _ (nc zz uu).toArray _ _ g3
    refine bodyPost_ret (res2n rfl _ _ w.heap.size _ _ _ zW (rng_row hr3) rfl rfl) rfl ?_
    refine ⟨zz, uu, by rw [HL.out]; rfl, by rw [HZ.out.1, HZ.out.2]; exact ng_zero _ _, below_setRow HX.out (Nat.le_refl _) _, fun q hq => ?_⟩
    rw [HL.out] at hq
    cases hq
  | some ps =>
    obtain ⟨p1, p2⟩ := hp ps rfl
    obtain ⟨m, em⟩ : ∃ m, m = ps.length := ⟨_, rfl⟩
    simp only [Option.getD_some, Option.isSome_some] at K
    rw [← em] at p1 p2 K
    have i1 : ¬ (m : Int) = 17 := by omega
    have i1b : ((m : Int) == 17) = false := by simpa using i1
    have i2 : ¬ (m : Int) = 2 := by omega
    have i2b : ((m : Int) == 2) = false := by simpa using i2
    have i2c : ((m : Int) != 2) = true := by simpa using i2
    clear em hp p1 p2
    go_enter Tryz.func100, Tryz.ntmps100
    go_wp2_with (first
      | (go_at_call 121; refine K.mono ?_; rintro e w3 ⟨u3, rfl, own3, b3⟩; obtain ⟨a3, c3, rfl⟩ := own_slice own3; have g3 := (b3.block w.heap.size (by simp)).trans HK0.out.2; have HX : Hid (Below w.heap.size w w3) := ch HK0.out.1 b3; clear own3 b3 K)
      | refine wpList_st29b (by kernel_rfl) _ _ (by rfl) w.heap.size zz zz uu uu zW zW one g3 (by rfl) (by rfl) ?_)
    have hr3 := setRow_heap w3 w.heap.size _ (nc zz uu).toArray _ _ g3
    refine bodyPost_ret (res2n rfl _ _ w.heap.size _ _ _ zW (rng_row hr3) rfl rfl) rfl ?_
    refine ⟨zz, uu, by rw [HL.out]; rfl, by rw [HZ.out.1, HZ.out.2]; exact ng_zero _ _, below_setRow HX.out (Nat.le_refl _) _, fun q hq => ?_⟩
    rw [HL.out] at hq
    cases hq
end Go.Proofs.YtepeolbbplodfaaGreatDoor
