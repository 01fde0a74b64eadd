import Derived.Test.YtadcbhjmbgenbaaDoorNwq
/-
  A book: New.
-/
namespace Go.Proofs.YtadcbhjmbgenbaaDoor
open Go.RowKit Go.Sort Go.Maps

set_option maxRecDepth 100000 in
set_option maxHeartbeats 1600000 in
theorem new_ok (w : World) (n m : Nat) (a : Option Addr) (b off c : Nat) (s : List Nat) (hv : Vw w a b off s) (h1 : 8 ≤ n ∧ n ≤ 256) (h2 : 8 ≤ m ∧ m ≤ 256) (hl : s.length = 32) (B : Nat) (hB : B ≤ w.heap.size) :
    Calls Tryd.prog 5 #[.int .i64 n, .int .i64 m, .slice a 32 c] w fun e w' => ∃ sb F, e = .returned (.tuple #[.pointer (some ⟨sb, 0, none⟩), .int .i64 0]) ∧ Below w.heap.size w w' ∧ Book w' B sb ⟨n, m, gd s, [], [], []⟩ F ∧ ∀ i, F i → w.heap.size ≤ i := by
  have c1 := maybe_yes w n (by omega) (by omega)
  have c2 := maybe_yes w m (by omega) (by omega)
  have HV : Hid (View w a b off 32 (fun i => ((gd s i : Nat) : Int)) ∧ s.length = 32 ∧ (8 ≤ n ∧ n ≤ 256) ∧ (8 ≤ m ∧ m ≤ 256) ∧ B ≤ w.heap.size ∧ ∀ x ∈ s, x < 256) := ⟨by have := hv; unfold Vw at this; rw [hl] at this; exact this, hl, h1, h2, hB, (vw_ok hv).2⟩
  obtain rfl := hv.at_ (by omega)
  clear hv h1 h2 hB
  go_enter Tryd.func5, Tryd.ntmps5
  go_wp2_with fail
  refine c1.mono ?_
  rintro _ w' ⟨rfl, hw'⟩
  have hw'' := hw'.symm
  subst hw''
  go_wp2_with fail
  refine c2.mono ?_
  rintro _ w' ⟨rfl, hw'⟩
  have hw'' := hw'.symm
  subst hw''
  go_wp2_with fail
  refine (blank_any w).mono ?_
  rintro _ w3 ⟨rfl, hb3, n3, z3⟩
  have H3 : Hid (Below w.heap.size w w3 ∧ (∀ κ, Notes w3 (w.heap.size + 1) (fun i => i = w.heap.size + 1) κ []) ∧ w.heap.size + 1 < w3.heap.size) := ⟨hb3, n3, z3⟩
  clear hb3 n3 z3
  go_wp2_with fail
  refine (blank_any w3).mono ?_
  rintro _ w4 ⟨rfl, hb4, n4, z4⟩
  have H4 : Hid (Below w3.heap.size w3 w4 ∧ (∀ κ, Notes w4 (w3.heap.size + 1) (fun i => i = w3.heap.size + 1) κ []) ∧ w3.heap.size + 1 < w4.heap.size) := ⟨hb4, n4, z4⟩
  clear hb4 n4 z4
  go_wp2_with fail
  refine (blank_any w4).mono ?_
  rintro _ w5 ⟨rfl, hb5, n5, z5⟩
  have H5 : Hid (Below w4.heap.size w4 w5 ∧ (∀ κ, Notes w5 (w4.heap.size + 1) (fun i => i = w4.heap.size + 1) κ []) ∧ w4.heap.size + 1 < w5.heap.size) := ⟨hb5, n5, z5⟩
  clear hb5 n5 z5
  obtain ⟨bh, hbh⟩ : ∃ x, x = w.heap.size + 1 := ⟨_, rfl⟩
  obtain ⟨bc, hbc⟩ : ∃ x, x = w3.heap.size + 1 := ⟨_, rfl⟩
  obtain ⟨bf, hbf⟩ : ∃ x, x = w4.heap.size + 1 := ⟨_, rfl⟩
  rw [← hbh, ← hbc, ← hbf]
  have HB : Hid (bh = w.heap.size + 1 ∧ bc = w3.heap.size + 1 ∧ bf = w4.heap.size + 1) := ⟨hbh, hbc, hbf⟩
  clear hbh hbc hbf
  have bs := bk0_size n m bh bc bf
  have hg : (w5.alloc (.cells (bk0 n m bh bc bf) 56)).heap[w5.heap.size]? = some (.cells (bk0 n m bh bc bf) 56 (0, 0)) := heap_alloc_new _ _
  have b5 : Below w.heap.size w w5 := ch H3.out.1 (ch H4.out.1 H5.out.1)
  have b6 : Below w.heap.size w (w5.alloc (.cells (bk0 n m bh bc bf) 56)) := b5.alloc b5.size _
  have hsrc : ∀ j v, (bv s)[j]? = some v → (w5.alloc (.cells (bk0 n m bh bc bf) 56)).cell? ((⟨b, off, none⟩ : Addr).add j) = some v := by
    intro j v hj
    have hjl : j < s.length := by have := List.getElem?_eq_some_iff.1 hj; obtain ⟨q, _⟩ := this; rw [bv_len] at q; exact q
    rw [Go.WideShapes.add_plain]
    rw [bv_at hjl] at hj
    have := (HV.out.1.below b6).cell j (by rw [HV.out.2.1] at hjl; exact hjl)
    rw [this]
    exact hj
  have HW : Hid (Below w.heap.size w (w5.alloc (.cells (bk0 n m bh bc bf) 56)) ∧ (w5.alloc (.cells (bk0 n m bh bc bf) 56)).heap[w5.heap.size]? = some (.cells (bk0 n m bh bc bf) 56 (0, 0)) ∧ Below w5.heap.size w5 (w5.alloc (.cells (bk0 n m bh bc bf) 56))) := ⟨b6, hg, (Below.refl _ _).alloc (Nat.le_refl _) _⟩
  have h1s : ∀ v ∈ bv s, v.oneCell' = true := fun v hv => by
    obtain ⟨x, _, rfl⟩ := List.mem_map.1 hv
    rfl
  have hcl : (bv s).length = Nat.min 32 32 := by rw [bv_len, hl]; rfl
  have hft : 2 + (bv s).length ≤ (bk0 n m bh bc bf).size := by rw [bv_len, hl, bs]; decide
  have hsz : (Tryd.prog.info? 5).map (·.size) = some 1 := by kernel_rfl
  have hset := bk0_set n m bh bc bf s hl
  obtain ⟨cs, hcs⟩ : ∃ cs, cs = ((bk0 n m bh bc bf).toList.take 2 ++ (bv s ++ (bk0 n m bh bc bf).toList.drop (2 + (bv s).length))).toArray := ⟨_, rfl⟩
  have hcz : cs.size = 42 := by
    rw [hcs, List.size_toArray]
    simp only [List.length_append, List.length_take, List.length_drop, Array.length_toList, bs, bv_len, hl]
    rfl
  rw [← hcs] at hset
  have HCS : Hid (cs = ((bk0 n m bh bc bf).toList.take 2 ++ (bv s ++ (bk0 n m bh bc bf).toList.drop (2 + (bv s).length))).toArray) := hcs
  have HST : Hid (∀ i, i < 42 → cs[i]? = some (bkc n m (gd s) bh 0 bc 0 bf 0 0 i)) := hset
  clear b5 b6 hcs hset
  go_wp2_with (first
    | refine wpList_build_to (by rfl) 56 #[(0, .tmp 17), (1, .tmp 18), (4, .tmp 19), (5, .tmp 20), (6, .tmp 21)] (by rfl) (bk0 n m bh bc bf) (by simp only [List.map_toArray, List.map_cons, List.map_nil]; exact builtB _ _ _ _ _) ?_
    | (refine wpList_copy_own (by rfl) (.tmp 30) (.tmp 31) 22 22 (by rfl) 5 Tryd.underlying22 hsz w5.heap.size 2 32 32 ⟨b, off, none⟩ 32 c (by rfl) (by rfl) (bk0 n m bh bc bf) 56 hg (bv s) hcl hsrc hft h1s ?_; rw [← HCS.out]))
  go_ret2
  have e1 := HB.out.1
  have e2 := HB.out.2.1
  have e3 := HB.out.2.2
  have z3 := H3.out.2.2
  have z4 := H4.out.2.2
  have z5 := H5.out.2.2
  obtain ⟨w6, hw6⟩ : ∃ y, y = w5.alloc (.cells (bk0 n m bh bc bf) 56) := ⟨_, rfl⟩
  have HW' := HW.out
  rw [← hw6] at HW' ⊢
  have t7 : Turn (fun i => i = w5.heap.size) w6 (w6.setRow w5.heap.size cs) := Turn.setRow w6 _ _ rfl
  have hl6 : w5.heap.size < w6.heap.size := (Array.getElem?_eq_some_iff.1 HW'.2.1).1
  refine ⟨w5.heap.size, fun i => i = w5.heap.size ∨ i = bh ∨ i = bc ∨ i = bf, rfl, below_setRow HW'.1 (by have := HW'.1.size; have := H3.out.1.size; have := H4.out.1.size; have := H5.out.1.size; omega) _, ⟨bh, bc, bf, fun i => i = bh, fun i => i = bc, fun i => i = bf, ?_, fun i => Iff.rfl⟩, fun i q => ?_⟩
  · refine { row := ⟨cs, setRow_heap _ _ _ _ _ _ HW'.2.1, hcz, HST.out⟩, nh := ?_, nc := ?_, nf := ?_, hc := fun i q z => ?_, hf := fun i q z => ?_, cf := fun i q z => ?_, oh := fun q => ?_, oc := fun q => ?_, of_ := fun q => ?_, lim := fun i q => ?_, base := ⟨?_, fun i q => ?_⟩, b1 := HV.out.2.2.1, b2 := HV.out.2.2.2.1, S8 := fun i => gd_lt HV.out.2.2.2.2.2 i }
    · have := H3.out.2.1 (kh n)
      rw [← e1] at this
      exact ((this.turn (Turn.of_below (ch H4.out.1 (ch H5.out.1 HW'.2.2)) (F := fun _ => False)) (fun _ _ _ f => f)).turn t7 (fun i q _ z => by omega))
    · have := H4.out.2.1 (kc m (gd s))
      rw [← e2] at this
      exact ((this.turn (Turn.of_below (ch H5.out.1 HW'.2.2) (F := fun _ => False)) (fun _ _ _ f => f)).turn t7 (fun i q _ z => by omega))
    · have := H5.out.2.1 (kc m (gd s))
      rw [← e3] at this
      exact ((this.turn (Turn.of_below HW'.2.2 (F := fun _ => False)) (fun _ _ _ f => f)).turn t7 (fun i q _ z => by omega))
    · omega
    · omega
    · omega
    · omega
    · omega
    · omega
    · have : (w6.setRow w5.heap.size cs).heap.size = w6.heap.size := by simp
      omega
    · have := HV.out.2.2.2.2.1
      omega
    · have := HV.out.2.2.2.2.1
      omega
  · omega
end Go.Proofs.YtadcbhjmbgenbaaDoor
