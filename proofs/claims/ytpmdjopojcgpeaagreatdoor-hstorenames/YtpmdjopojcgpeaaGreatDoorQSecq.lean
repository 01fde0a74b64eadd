import Derived.Test.YtpmdjopojcgpeaaGreatDoorQHshq
import Derived.Test.YtpmdjopojcgpeaaGreatDoorQLibCq
/-
  A book: Accept.
-/
namespace Go.Proofs.YtpmdjopojcgpeaaGreatDoor.Dg
open Go.RowKit Go.Sort Go.Maps Go.MuLone

end Go.Proofs.YtpmdjopojcgpeaaGreatDoor.Dg

/-
  A book: New. The laws' own Secret and Bits.
-/
namespace Go.Proofs.YtpmdjopojcgpeaaGreatDoor.Dg
open Go.RowKit Go.Sort Go.Maps

theorem maybe_yes (w : World) (n : Int) (h1 : 8 ≤ n) (h2 : n ≤ 256) : Calls Tryz.prog 36 #[.int .i64 n] w fun e w' => e = .returned (.bool true) ∧ w' = w := by
  go_enter Tryz.func36, Tryz.ntmps36
  go_wp2
  go_ret
  exact ⟨rfl, rfl⟩
theorem maybe_low (w : World) (n : Int) (h1 : n < 8) : Calls Tryz.prog 36 #[.int .i64 n] w fun e w' => e = .returned (.bool false) ∧ w' = w := by
  have h2 : ¬ 8 ≤ n := by omega
  go_enter Tryz.func36, Tryz.ntmps36
  go_wp2
  go_ret
  exact ⟨rfl, rfl⟩
theorem maybe_high (w : World) (n : Int) (h1 : 256 < n) : Calls Tryz.prog 36 #[.int .i64 n] w fun e w' => e = .returned (.bool false) ∧ w' = w := by
  have h2 : 8 ≤ n := by omega
  have h3 : ¬ n ≤ 256 := by omega
  go_enter Tryz.func36, Tryz.ntmps36
  go_wp2
  go_ret
  exact ⟨rfl, rfl⟩
theorem maybe_no (w : World) (n : Int) (h : n < 8 ∨ 256 < n) : Calls Tryz.prog 36 #[.int .i64 n] w fun e w' => e = .returned (.bool false) ∧ w' = w := by
  rcases h with h | h
  · exact maybe_low w n h
  · exact maybe_high w n h

/-- ErrBits -/
theorem new_bits1 (w : World) (n m : Int) (v : Value) (h : n < 8 ∨ 256 < n) : Calls Tryz.prog 8 #[.int .i64 n, .int .i64 m, v] w fun e w' => e = .returned (.tuple #[.pointer none, .int .i64 40]) ∧ w' = w := by
  have c1 := maybe_no w n h
  go_enter Tryz.func8, Tryz.ntmps8
  go_wp2_with (go_at_call 36; refine c1.mono ?_; rintro _ w' ⟨rfl, hw'⟩; have hw'' := hw'.symm; subst hw'')
  go_ret2
  exact ⟨rfl, rfl⟩
theorem new_bits2 (w : World) (n m : Int) (v : Value) (h1 : 8 ≤ n) (h2 : n ≤ 256) (h : m < 8 ∨ 256 < m) : Calls Tryz.prog 8 #[.int .i64 n, .int .i64 m, v] w fun e w' => e = .returned (.tuple #[.pointer none, .int .i64 40]) ∧ w' = w := by
  have c1 := maybe_yes w n h1 h2
  have c2 := maybe_no w m h
  go_enter Tryz.func8, Tryz.ntmps8
  go_wp2_with fail
  refine c1.mono ?_
  rintro _ w' ⟨rfl, hw'⟩
  have hw'' := hw'.symm
  subst hw''
  go_wp2_with fail
  refine c2.mono ?_
  rintro _ w' ⟨rfl, hw'⟩
  have hw'' := hw'.symm
  subst hw''
  go_wp2_with fail
  go_ret2
  exact ⟨rfl, rfl⟩

theorem infoN : (Tryz.prog.info? 86).map (fun i => (i.zero, i.size)) = some (some (.agg #[.map none, .int .i64 0]), 2) := by kernel_rfl
theorem infoN2 : (Tryz.prog.info? 86).map (·.size) = some 2 := by kernel_rfl

set_option maxRecDepth 100000 in
theorem blank_any (w : World) : Calls Tryz.prog 37 #[] w fun e w' => e = .returned (.agg #[.map (some (w.heap.size + 1)), .int .i64 0]) ∧ Below w.heap.size w w' ∧ (∀ κ, Notes w' (w.heap.size + 1) (fun i => i = w.heap.size + 1) κ []) ∧ w.heap.size + 1 < w'.heap.size := by
  have z64 := (zero_of_info infoN).1
  have hmm := @run_makeMap Tryz.prog
  have hi : (Tryz.prog.info? 86).map (·.size) = some (#[.map (some (w.heap.size + 1)), .int .i64 0] : Array Value).size := infoN2
  have hr : ((w.alloc (.cells #[.map (some (w.heap.size + 1)), .int .i64 0] 86)).alloc (.map #[] 0)).heap[w.heap.size]? = some (.cells #[.map (some (w.heap.size + 1)), .int .i64 0] 86 (0, 0)) := (heap_alloc_old _ _ (by simp)).trans (heap_alloc_new _ _)
  go_enter Tryz.func37, Tryz.ntmps37
  go_wp2_with fail
  refine bodyPost_ret (v := .agg #[.map (some (w.heap.size + 1)), .int .i64 0]) ?_ rfl ?_
  · exact results_cell_row rfl _ _ w.heap.size 86 #[.map (some (w.heap.size + 1)), .int .i64 0] (0, 0) _ rfl hr Tryz.underlying86 rfl hi
  · refine ⟨rfl, ((Below.refl _ _).alloc (Nat.le_refl _) _).alloc (by simp) _, fun κ => ?_, by simp⟩
    have := notes_new (w.alloc (.cells #[.map (some (w.heap.size + 1)), .int .i64 0] 86)) κ
    rw [World.size_alloc] at this
    exact this

/-- a new book's cells, ahead of the secret -/
def bk0 (bits cbits bh bc bf : Nat) : Array Value := #[.int .i64 bits, .int .i64 cbits] ++ Array.replicate 32 (.int .u8 0) ++ #[.int .i32 0, .int .u32 0, .map (some bh), .int .i64 0, .map (some bc), .int .i64 0, .map (some bf), .int .i64 0]
theorem bk0_size (bits cbits bh bc bf : Nat) : (bk0 bits cbits bh bc bf).size = 42 := by simp [bk0]
set_option maxRecDepth 100000 in
theorem builtB (bits cbits bh bc bf : Nat) : Tryz.prog.built 96 [(0, .int .i64 bits), (1, .int .i64 cbits), (4, .agg #[.map (some bh), .int .i64 0]), (5, .agg #[.map (some bc), .int .i64 0]), (6, .agg #[.map (some bf), .int .i64 0])] = some (bk0 bits cbits bh bc bf) := by kernel_rfl
theorem infoBk : (Tryz.prog.info? 96).map (·.size) = some 42 := by kernel_rfl
theorem bk0_set (bits cbits bh bc bf : Nat) (s : List Nat) (hs : s.length = 32) (i : Nat) (hi : i < 42) : ((bk0 bits cbits bh bc bf).toList.take 2 ++ (bv s ++ (bk0 bits cbits bh bc bf).toList.drop (2 + (bv s).length))).toArray[i]? = some (bkc bits cbits (gd s) bh 0 bc 0 bf 0 0 i) := by
  have e0 : (bk0 bits cbits bh bc bf).toList = ([.int .i64 bits, .int .i64 cbits] ++ List.replicate 32 (.int .u8 0)) ++ [.int .i32 0, .int .u32 0, .map (some bh), .int .i64 0, .map (some bc), .int .i64 0, .map (some bf), .int .i64 0] := by simp [bk0]
  have e1 : (bk0 bits cbits bh bc bf).toList.take 2 = [.int .i64 bits, .int .i64 cbits] := by
    rw [e0, List.append_assoc]
    exact List.take_left' rfl
  have e2 : (bk0 bits cbits bh bc bf).toList.drop (2 + (bv s).length) = [.int .i32 0, .int .u32 0, .map (some bh), .int .i64 0, .map (some bc), .int .i64 0, .map (some bf), .int .i64 0] := by
    rw [bv_len, hs, e0]
    exact List.drop_left' (by simp)
  rw [e1, e2, List.getElem?_toArray]
  by_cases h0 : i < 2
  · match i, h0 with
    | 0, _ => rfl
    | 1, _ => rfl
  · rw [List.getElem?_append_right (by simp; omega)]
    by_cases h1 : i < 34
    · rw [List.getElem?_append_left (by rw [bv_len, hs]; simp; omega)]
      have : i - [Value.int .i64 bits, Value.int .i64 cbits].length = i - 2 := rfl
      rw [this, bv_at (by omega)]
      unfold bkc
      rw [if_neg (by omega), if_neg (by omega), if_pos h1]
    · rw [List.getElem?_append_right (by rw [bv_len, hs]; simp; omega), bv_len, hs]
      have : i - [Value.int .i64 bits, Value.int .i64 cbits].length - 32 = i - 34 := by simp; omega
      rw [this]
      obtain ⟨j, rfl⟩ : ∃ j, i = 34 + j := ⟨i - 34, by omega⟩
      rw [Nat.add_sub_cancel_left]
      have hj : j < 8 := by omega
      clear hi this
      match j, hj with
      | 0, _ => rfl
      | 1, _ => rfl
      | 2, _ => rfl
      | 3, _ => rfl
      | 4, _ => rfl
      | 5, _ => rfl
      | 6, _ => rfl
      | 7, _ => rfl

end Go.Proofs.YtpmdjopojcgpeaaGreatDoor.Dg

/-
  A book: New.
-/
namespace Go.Proofs.YtpmdjopojcgpeaaGreatDoor.Dg
open Go.RowKit Go.Sort Go.Maps

set_option maxRecDepth 100000 in
set_option maxHeartbeats 1600000 in
theorem new_ok (w : World) (n m : Nat) (a : Option Addr) (b off c : Nat) (s : List Nat) (hv : Vw w a b off s) (h1 : 8 ≤ n ∧ n ≤ 256) (h2 : 8 ≤ m ∧ m ≤ 256) (hl : s.length = 32) (B : Nat) (hB : B ≤ w.heap.size) :
    Calls Tryz.prog 8 #[.int .i64 n, .int .i64 m, .slice a 32 c] w fun e w' => ∃ sb F, e = .returned (.tuple #[.pointer (some ⟨sb, 0, none⟩), .int .i64 0]) ∧ Below w.heap.size w w' ∧ Book w' B sb ⟨n, m, gd s, [], [], []⟩ F ∧ ∀ i, F i → w.heap.size ≤ i := by
  have c1 := maybe_yes w n (by omega) (by omega)
  have c2 := maybe_yes w m (by omega) (by omega)
  have HV : Hid (View w a b off 32 (fun i => ((gd s i : Nat) : Int)) ∧ s.length = 32 ∧ (8 ≤ n ∧ n ≤ 256) ∧ (8 ≤ m ∧ m ≤ 256) ∧ B ≤ w.heap.size ∧ ∀ x ∈ s, x < 256) := ⟨by have := hv; unfold Vw at this; rw [hl] at this; exact this, hl, h1, h2, hB, (vw_ok hv).2⟩
  obtain rfl := hv.at_ (by omega)
  clear hv h1 h2 hB
  go_enter Tryz.func8, Tryz.ntmps8
  go_wp2_with fail
  refine c1.mono ?_
  rintro _ w' ⟨rfl, hw'⟩
  have hw'' := hw'.symm
  subst hw''
  go_wp2_with fail
  refine c2.mono ?_
  rintro _ w' ⟨rfl, hw'⟩
  have hw'' := hw'.symm
  subst hw''
  go_wp2_with fail
  refine (blank_any w).mono ?_
  rintro _ w3 ⟨rfl, hb3, n3, z3⟩
  have H3 : Hid (Below w.heap.size w w3 ∧ (∀ κ, Notes w3 (w.heap.size + 1) (fun i => i = w.heap.size + 1) κ []) ∧ w.heap.size + 1 < w3.heap.size) := ⟨hb3, n3, z3⟩
  clear hb3 n3 z3
  go_wp2_with fail
  refine (blank_any w3).mono ?_
  rintro _ w4 ⟨rfl, hb4, n4, z4⟩
  have H4 : Hid (Below w3.heap.size w3 w4 ∧ (∀ κ, Notes w4 (w3.heap.size + 1) (fun i => i = w3.heap.size + 1) κ []) ∧ w3.heap.size + 1 < w4.heap.size) := ⟨hb4, n4, z4⟩
  clear hb4 n4 z4
  go_wp2_with fail
  refine (blank_any w4).mono ?_
  rintro _ w5 ⟨rfl, hb5, n5, z5⟩
  have H5 : Hid (Below w4.heap.size w4 w5 ∧ (∀ κ, Notes w5 (w4.heap.size + 1) (fun i => i = w4.heap.size + 1) κ []) ∧ w4.heap.size + 1 < w5.heap.size) := ⟨hb5, n5, z5⟩
  clear hb5 n5 z5
  obtain ⟨bh, hbh⟩ : ∃ x, x = w.heap.size + 1 := ⟨_, rfl⟩
  obtain ⟨bc, hbc⟩ : ∃ x, x = w3.heap.size + 1 := ⟨_, rfl⟩
  obtain ⟨bf, hbf⟩ : ∃ x, x = w4.heap.size + 1 := ⟨_, rfl⟩
  rw [← hbh, ← hbc, ← hbf]
  have HB : Hid (bh = w.heap.size + 1 ∧ bc = w3.heap.size + 1 ∧ bf = w4.heap.size + 1) := ⟨hbh, hbc, hbf⟩
  clear hbh hbc hbf
  have bs := bk0_size n m bh bc bf
  have hg : (w5.alloc (.cells (bk0 n m bh bc bf) 96)).heap[w5.heap.size]? = some (.cells (bk0 n m bh bc bf) 96 (0, 0)) := heap_alloc_new _ _
  have b5 : Below w.heap.size w w5 := ch H3.out.1 (ch H4.out.1 H5.out.1)
  have b6 : Below w.heap.size w (w5.alloc (.cells (bk0 n m bh bc bf) 96)) := b5.alloc b5.size _
  have hsrc : ∀ j v, (bv s)[j]? = some v → (w5.alloc (.cells (bk0 n m bh bc bf) 96)).cell? ((⟨b, off, none⟩ : Addr).add j) = some v := by
    intro j v hj
    have hjl : j < s.length := by have := List.getElem?_eq_some_iff.1 hj; obtain ⟨q, _⟩ := this; rw [bv_len] at q; exact q
    rw [Go.WideShapes.add_plain]
    rw [bv_at hjl] at hj
    have := (HV.out.1.below b6).cell j (by rw [HV.out.2.1] at hjl; exact hjl)
    rw [this]
    exact hj
  have HW : Hid (Below w.heap.size w (w5.alloc (.cells (bk0 n m bh bc bf) 96)) ∧ (w5.alloc (.cells (bk0 n m bh bc bf) 96)).heap[w5.heap.size]? = some (.cells (bk0 n m bh bc bf) 96 (0, 0)) ∧ Below w5.heap.size w5 (w5.alloc (.cells (bk0 n m bh bc bf) 96))) := ⟨b6, hg, (Below.refl _ _).alloc (Nat.le_refl _) _⟩
  have h1s : ∀ v ∈ bv s, v.oneCell' = true := fun v hv => by
    obtain ⟨x, _, rfl⟩ := List.mem_map.1 hv
    rfl
  have hcl : (bv s).length = Nat.min 32 32 := by rw [bv_len, hl]; rfl
  have hft : 2 + (bv s).length ≤ (bk0 n m bh bc bf).size := by rw [bv_len, hl, bs]; decide
  have hsz : (Tryz.prog.info? 5).map (·.size) = some 1 := by kernel_rfl
  have hset := bk0_set n m bh bc bf s hl
  obtain ⟨cs, hcs⟩ : ∃ cs, cs = ((bk0 n m bh bc bf).toList.take 2 ++ (bv s ++ (bk0 n m bh bc bf).toList.drop (2 + (bv s).length))).toArray := ⟨_, rfl⟩
  have hcz : cs.size = 42 := by
    rw [hcs, List.size_toArray]
    simp only [List.length_append, List.length_take, List.length_drop, Array.length_toList, bs, bv_len, hl]
    rfl
  rw [← hcs] at hset
  have HCS : Hid (cs = ((bk0 n m bh bc bf).toList.take 2 ++ (bv s ++ (bk0 n m bh bc bf).toList.drop (2 + (bv s).length))).toArray) := hcs
  have HST : Hid (∀ i, i < 42 → cs[i]? = some (bkc n m (gd s) bh 0 bc 0 bf 0 0 i)) := hset
  clear b5 b6 hcs hset
  go_wp2_with (first
    | refine wpList_build_to (by rfl) 96 #[(0, .tmp 17), (1, .tmp 18), (4, .tmp 19), (5, .tmp 20), (6, .tmp 21)] (by rfl) (bk0 n m bh bc bf) (by simp only [List.map_toArray, List.map_cons, List.map_nil]; exact builtB _ _ _ _ _) ?_
    | (refine wpList_copy_own (by rfl) (.tmp 30) (.tmp 31) 29 29 (by rfl) 5 Tryz.underlying29 hsz w5.heap.size 2 32 32 ⟨b, off, none⟩ 32 c (by rfl) (by rfl) (bk0 n m bh bc bf) 96 hg (bv s) hcl hsrc hft h1s ?_; rw [← HCS.out]))
  go_ret2
  have e1 := HB.out.1
  have e2 := HB.out.2.1
  have e3 := HB.out.2.2
  have z3 := H3.out.2.2
  have z4 := H4.out.2.2
  have z5 := H5.out.2.2
  obtain ⟨w6, hw6⟩ : ∃ y, y = w5.alloc (.cells (bk0 n m bh bc bf) 96) := ⟨_, rfl⟩
  have HW' := HW.out
  rw [← hw6] at HW' ⊢
  have t7 : Turn (fun i => i = w5.heap.size) w6 (w6.setRow w5.heap.size cs) := Turn.setRow w6 _ _ rfl
  have hl6 : w5.heap.size < w6.heap.size := (Array.getElem?_eq_some_iff.1 HW'.2.1).1
  refine ⟨w5.heap.size, fun i => i = w5.heap.size ∨ i = bh ∨ i = bc ∨ i = bf, rfl, below_setRow HW'.1 (by have := HW'.1.size; have := H3.out.1.size; have := H4.out.1.size; have := H5.out.1.size; omega) _, ⟨bh, bc, bf, fun i => i = bh, fun i => i = bc, fun i => i = bf, ?_, fun i => Iff.rfl⟩, fun i q => ?_⟩
  · refine { row := ⟨cs, setRow_heap _ _ _ _ _ _ HW'.2.1, hcz, HST.out⟩, nh := ?_, nc := ?_, nf := ?_, hc := fun i q z => ?_, hf := fun i q z => ?_, cf := fun i q z => ?_, oh := fun q => ?_, oc := fun q => ?_, of_ := fun q => ?_, lim := fun i q => ?_, base := ⟨?_, fun i q => ?_⟩, b1 := HV.out.2.2.1, b2 := HV.out.2.2.2.1, S8 := fun i => gd_lt HV.out.2.2.2.2.2 i }
    · have := H3.out.2.1 (kh n)
      rw [← e1] at this
      exact ((this.turn (Turn.of_below (ch H4.out.1 (ch H5.out.1 HW'.2.2)) (F := fun _ => False)) (fun _ _ _ f => f)).turn t7 (fun i q _ z => by omega))
    · have := H4.out.2.1 (kc m (gd s))
      rw [← e2] at this
      exact ((this.turn (Turn.of_below (ch H5.out.1 HW'.2.2) (F := fun _ => False)) (fun _ _ _ f => f)).turn t7 (fun i q _ z => by omega))
    · have := H5.out.2.1 (kc m (gd s))
      rw [← e3] at this
      exact ((this.turn (Turn.of_below HW'.2.2 (F := fun _ => False)) (fun _ _ _ f => f)).turn t7 (fun i q _ z => by omega))
    · omega
    · omega
    · omega
    · omega
    · omega
    · omega
    · have : (w6.setRow w5.heap.size cs).heap.size = w6.heap.size := by simp
      omega
    · have := HV.out.2.2.2.2.1
      omega
    · have := HV.out.2.2.2.2.1
      omega
  · omega
end Go.Proofs.YtpmdjopojcgpeaaGreatDoor.Dg

/-
  The laws' own Secret.
-/
namespace Go.Proofs.YtpmdjopojcgpeaaGreatDoor.Dg
open Go.RowKit

/-- 32 bytes made of any -/
def secf (n : Nat) (Y : Nat → Nat) (i : Nat) : Nat := if i < n then Y i else 0
theorem secf_lt {n : Nat} {Y : Nat → Nat} (h : ∀ i, Y i < 256) (i : Nat) : secf n Y i < 256 := by
  unfold secf
  split
  · exact h i
  · decide
structure Sc (w wr : World) (n : Nat) (Y : Nat → Nat) (k : Nat) (v : Value) : Prop where
  below : Below w.heap.size w wr
  own : wr.ownsRow w.heap.size 5 1 v k (vals (fun i => ((secf n Y i : Nat) : Int)) k)

set_option maxRecDepth 100000 in
set_option maxHeartbeats 1600000 in
theorem secret_any (w : World) (a : Option Addr) (b off n c : Nat) (Y : Nat → Nat) (hv : View w a b off n (fun i => (Y i : Int))) (hY : ∀ i, Y i < 256) :
    Calls Tryz.prog 9 #[.slice a n c] w fun e w' => ∃ a' g' c', e = .returned (.slice a' 32 c') ∧ 32 ≤ c' ∧ w.heap.size ≤ g' ∧ g' < w'.heap.size ∧ Vw w' a' g' 0 (lst 32 (secf n Y)) ∧ w'.ownsRow w.heap.size 5 1 (.slice a' 32 c') 32 (vals (fun i => ((secf n Y i : Nat) : Int)) 32) ∧ Below w.heap.size w w' := by
  have HV : Hid (View w a b off n (fun i => (Y i : Int))) := hv
  have hnl := hv.len
  have H0 : Hid (Sc w w n Y 0 (.slice none 0 0)) := ⟨Below.refl _ _, World.ownsRow_nil _ _ _ _⟩
  clear hv
  go_enter Tryz.func9, Tryz.ntmps9
  go_wp2_with fail
  go_loopg [3, 4] 32 (fun g v i wr => ∃ k : Nat, k ≤ 32 ∧ g = 32 - k ∧ i = .int .i64 k ∧ Sc w wr n Y k v)
  case atStart => exact ⟨0, by omega, rfl, rfl, H0.out⟩
  case round =>
    obtain ⟨k, hk, rfl, rfl, hR⟩ := hrel
    clear H0
    have own1 := hR.own
    have b1 := hR.below
    have s1 := b1.size
    by_cases hkn : k < 32
    · clear hR
      have HN0 : ∀ (x : Nat) (v2 : Value) (w2 : World), secf n Y k = x → w2.ownsRow w.heap.size 5 1 v2 (k + 1) (vals (fun i => ((secf n Y i : Nat) : Int)) k ++ vals (fun _ => (x : Int)) 1) → Below w.heap.size w w2 → Sc w w2 n Y (k + 1) v2 := fun x v2 w2 hx o2 b2 => ⟨b2, by rw [← vals_succ, hx]; exact o2⟩
      have HN1 : Hid (∀ (x : Nat) (v2 : Value) (w2 : World), secf n Y k = x → w2.ownsRow w.heap.size 5 1 v2 (k + 1) (vals (fun i => ((secf n Y i : Nat) : Int)) k ++ vals (fun _ => (x : Int)) 1) → Below w.heap.size w w2 → Sc w w2 n Y (k + 1) v2) := HN0
      clear HN0
      by_cases hin : k < n
      · obtain rfl := HV.out.at_ (by omega)
        have cc : wr.cell? ⟨b, off + k, none⟩ = some (.int .u8 (Y k)) := (b1.cell (p := ⟨b, off + k, none⟩) (HV.out.lt (by omega))).trans (HV.out.cell k hin)
        have hx : secf n Y k = Y k := by unfold secf; rw [if_pos hin]
        have Hx : Hid (secf n Y k = Y k) := hx
        have hy := hY k
        obtain ⟨y, hyy⟩ : ∃ y, y = Y k := ⟨_, rfl⟩
        rw [← hyy] at cc hy Hx
        have i1 : (k : Int) < (n : Int) := by omega
        clear hx hyy
        go_wp2_with (refine wpList_append_bytes (by rfl) (.tmp 18) (.tmp 20) (by rfl) w.heap.size _ k _ (by rfl) (own1.alloc _) (some ⟨wr.heap.size, 0, none⟩) wr.heap.size 0 1 1 _ (by rfl) (view_new1 wr y (by omega) (by omega)) (fun h => by cases h) (by omega) (by simp; omega) ?_)
        intro v2 w2 own2 gr2 nn2
        have HN : Hid (Sc w w2 n Y (k + 1) v2) := HN1.out y v2 w2 Hx.out own2 ((b1.alloc s1 _).trans (grown_below gr2 (own1.alloc _) (Nat.le_refl _) (by simp; omega)))
        clear own1 own2 gr2 nn2 b1 s1 HN1
        go_wp2_with fail
        go_roundg (32 - (k + 1))
        case measure => omega
        case rel => exact ⟨k + 1, by omega, rfl, by go_num, HN.out⟩
      · have hx : secf n Y k = 0 := by unfold secf; rw [if_neg hin]
        have Hx : Hid (secf n Y k = 0) := hx
        have i1 : ¬ ((k : Int) < (n : Int)) := by omega
        clear hx
        go_wp2_with (refine wpList_append_bytes (by rfl) (.tmp 18) (.tmp 20) (by rfl) w.heap.size _ k _ (by rfl) (own1.alloc _) (some ⟨wr.heap.size, 0, none⟩) wr.heap.size 0 1 1 _ (by rfl) (view_new1 wr 0 (by decide) (by decide)) (fun h => by cases h) (by omega) (by simp; omega) ?_)
        intro v2 w2 own2 gr2 nn2
        have HN : Hid (Sc w w2 n Y (k + 1) v2) := HN1.out 0 v2 w2 Hx.out own2 ((b1.alloc s1 _).trans (grown_below gr2 (own1.alloc _) (Nat.le_refl _) (by simp; omega)))
        clear own1 own2 gr2 nn2 b1 s1 HN1
        go_wp2_with fail
        go_roundg (32 - (k + 1))
        case measure => omega
        case rel => exact ⟨k + 1, by omega, rfl, by go_num, HN.out⟩
    · have : k = 32 := by omega
      subst this
      have hb : ∀ i, i < 32 → 0 ≤ ((secf n Y i : Nat) : Int) ∧ ((secf n Y i : Nat) : Int) ≤ 255 := fun i _ => by have := secf_lt (n := n) hY i; omega
      rcases own1.2 with ⟨rfl, h0⟩ | ⟨g, cap, cur, rfl, hbg, hgg, hnc, _⟩
      · omega
      · have hgl : g < wr.heap.size := (Array.getElem?_eq_some_iff.1 hgg).1
        have hvw : Vw wr (some ⟨g, 0, none⟩) g 0 (lst 32 (secf n Y)) := by
          refine vw_of ⟨fun _ => rfl, fun i hi => ?_, hb, by decide⟩
          have := own1.cells (g := g) rfl i (.int .u8 ((secf n Y i : Nat) : Int)) (by unfold vals; rw [List.getElem?_map, List.getElem?_range hi]; rfl)
          rw [addr0] at this
          rw [Nat.zero_add]
          exact this
        have HF : Hid (32 ≤ cap ∧ w.heap.size ≤ g ∧ g < wr.heap.size ∧ Vw wr (some ⟨g, 0, none⟩) g 0 (lst 32 (secf n Y)) ∧ wr.ownsRow w.heap.size 5 1 (.slice (some ⟨g, 0, none⟩) 32 cap) 32 (vals (fun i => ((secf n Y i : Nat) : Int)) 32) ∧ Below w.heap.size w wr) := ⟨hnc, hbg, hgl, hvw, own1, b1⟩
        clear hR own1 b1 s1 hb hgg hvw
        go_wp2_with fail
        go_ret
        exact ⟨_, g, cap, rfl, HF.out⟩
end Go.Proofs.YtpmdjopojcgpeaaGreatDoor.Dg
