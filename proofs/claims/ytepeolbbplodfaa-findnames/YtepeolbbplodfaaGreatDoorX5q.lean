import Derived.Test.YtepeolbbplodfaaGreatDoorX0q
import Derived.Test.YtepeolbbplodfaaGreatDoorMaq
import Derived.Test.YtepeolbbplodfaaGreatDoorQHshq
import Derived.Test.YtepeolbbplodfaaGreatDoorQRHcq
import Derived.Test.YtepeolbbplodfaaGreatDoorQGenq
/-
  Books and bytes; the law's book.
-/
namespace Go.Proofs.YtepeolbbplodfaaGreatDoor
open Go.RowKit Go.Maps

def IsH (k : List Nat) : Prop := k.length = 32 ∧ ∀ x ∈ k, x < 256
/-- bytes off the blocks F -/
def Vo (F : Nat → Prop) (w : World) (v : Value) (x : List Nat) : Prop := ∃ a b off c, v = .slice a x.length c ∧ Vw w a b off x ∧ x.length ≤ c ∧ (a = none → c = 0) ∧ x.length ≤ 140737488351232 ∧ (0 < x.length → ¬ F b ∧ b < w.heap.size)
theorem Vo.vb {F : Nat → Prop} {w : World} {v : Value} {x : List Nat} (h : Vo F w v x) : Vb w v x := by
  obtain ⟨a, b, off, c, h1, h2, h3, h4, h5, _⟩ := h
  exact ⟨a, b, off, c, h1, h2, h3, h4, h5⟩
theorem Vo.turn {F G : Nat → Prop} {w w' : World} {v : Value} {x : List Nat} (h : Vo F w v x) (t : Turn G w w') (hG : ∀ i, G i → i < w.heap.size → F i) : Vo F w' v x := by
  obtain ⟨a, b, off, c, h1, h2, h3, h4, h5, h6⟩ := h
  exact ⟨a, b, off, c, h1, h2.turn t (fun h0 q => (h6 h0).1 (hG _ q (h6 h0).2)), h3, h4, h5, fun h0 => ⟨(h6 h0).1, Nat.lt_of_lt_of_le (h6 h0).2 t.size⟩⟩
theorem Vo.keep {F : Nat → Prop} {w w' : World} {v : Value} {x : List Nat} (h : Vo F w v x) (k : Below w.heap.size w w') : Vo F w' v x := h.turn (G := fun _ => False) (Turn.of_below k) (fun _ q => q.elim)
theorem Vo.mono {F G : Nat → Prop} {w : World} {v : Value} {x : List Nat} (h : Vo F w v x) (hG : ∀ i, G i → i < w.heap.size → F i) : Vo G w v x := by
  obtain ⟨a, b, off, c, h1, h2, h3, h4, h5, h6⟩ := h
  exact ⟨a, b, off, c, h1, h2, h3, h4, h5, fun h0 => ⟨fun q => (h6 h0).1 (hG _ q (h6 h0).2), (h6 h0).2⟩⟩

/-! ### a book -/
theorem dgT {F : Nat → Prop} {w w' : World} (h : Dg.Turn F w w') : Turn F w w' := ⟨h.os, h.tape, h.output, h.size, h.block⟩
theorem tDg {F : Nat → Prop} {w w' : World} (h : Turn F w w') : Dg.Turn F w w' := ⟨h.os, h.tape, h.output, h.size, h.block⟩
theorem vDg {w : World} {a : Option Addr} {b off n : Nat} {Z : Nat → Int} (h : View w a b off n Z) : Dg.View w a b off n Z := ⟨h.at_, h.cell, h.bd, h.len⟩
/-- A BOOK OF SO MANY BITS, with no more than N strings; the tables stand. -/
def Bk (w : World) (bk bits N : Nat) (F : Nat → Prop) : Prop := ∃ B st, Dg.Book w B bk st F ∧ 2 < B ∧ st.bits = bits ∧ st.LH.length ≤ N
theorem Bk.turn {w w' : World} {bk bits N : Nat} {F G : Nat → Prop} (h : Bk w bk bits N F) (t : Turn G w w') (hd : ∀ i, F i → ¬ G i) : Bk w' bk bits N F := by
  obtain ⟨B, st, h1, h2, h3⟩ := h
  exact ⟨B, st, h1.turn (tDg t) hd, h2, h3⟩
theorem Bk.keep {w w' : World} {bk bits N : Nat} {F : Nat → Prop} (h : Bk w bk bits N F) (k : Below w.heap.size w w') : Bk w' bk bits N F := h.turn (G := fun _ => False) (Turn.of_below k) (fun _ _ q => q)
theorem Bk.lim {w : World} {bk bits N : Nat} {F : Nat → Prop} (h : Bk w bk bits N F) : ∀ i, F i → 2 < i ∧ i < w.heap.size := by
  obtain ⟨B, st, h1, h2, _⟩ := h
  intro i q
  have := h1.lim i q
  exact ⟨by omega, this.2⟩
/-- the tables stand where nothing of theirs is turned -/
theorem ground_turn {G : Nat → Prop} {w w' : World} (h : Dg.Ground w) (t : Turn G w w') (hG : ∀ i, G i → 2 < i) : Dg.Ground w' := by
  have b : Below (2 + 1) w w' := t.below (fun i q => hG i q) h.big
  exact ⟨h.first.below b (by decide), h.roots.below b (Nat.lt_succ_self _), Nat.lt_of_lt_of_le h.big t.size⟩
theorem isH_kh (bits : Nat) (s : List Nat) : IsH (Dg.kh bits s) := Dg.kh_isH bits s
theorem ins_le1 (s : List Nat) : ∀ L : List (List Nat), (Dg.ins s L).length ≤ L.length + 1
  | [] => by simp [Dg.ins]
  | x :: r => by
    rw [Dg.ins_cons]
    split
    · simp
    · split
      · simp
      · have := ins_le1 s r
        simp only [List.length_cons]
        omega
theorem bk_hash {w : World} {bk bits N : Nat} {F : Nat → Prop} (h : Bk w bk bits N F) (hG : Dg.Ground w) (hN : N ≤ 1000) {sa : Option Addr} {m sc : Nat} {x : List Nat} (hv : Vo F w (.slice sa m sc) x) :
    Calls Tryz.prog 20 #[.pointer (some ⟨bk, 0, none⟩), .slice sa m sc] w fun e w' => e = .returned (.agg (bv (Dg.kh bits x)).toArray) ∧ Turn F w w' ∧ ∃ F', Bk w' bk bits (N + 1) F' ∧ (∀ i, F' i → F i ∨ w.heap.size ≤ i) := by
  obtain ⟨B, st, h1, h2, h3, h4⟩ := h
  obtain ⟨a, b, off, c, e, hvw, hc, _, hl, hf⟩ := hv
  rw [e]
  refine (Dg.hash_any4 w B bk st F h1 hG h2 (by omega) a b off c x (vDg hvw) hc (by omega) (fun h0 => (hf h0).1)).mono ?_
  rintro e w' ⟨rfl, q⟩
  rw [h3]
  obtain ⟨F', q1, q2, q3⟩ := q.book
  refine ⟨rfl, dgT q.turn, F', ⟨B, _, q3, h2, h3, ?_⟩, q2⟩
  have := ins_le1 x st.LH
  show (Dg.ins x st.LH).length ≤ N + 1
  omega
def nbits (x : Int) : Nat := 8 + (Int.tmod x 249).natAbs
theorem nbits_le (x : Int) : 8 ≤ nbits x ∧ nbits x ≤ 256 := by
  unfold nbits
  have h1 := Int.natAbs_tmod x 249
  have h2 := Nat.mod_lt x.natAbs (show 0 < 249 by decide)
  have h3 : (249 : Int).natAbs = 249 := rfl
  rw [h3] at h1
  omega
theorem bits_any (w : World) (x : Int) : Calls Tryz.prog 24 #[.int .i64 x] w fun e w' => e = .returned (.int .i64 (nbits x : Nat)) ∧ w' = w := by
  have hb := nbits_le x
  have HE : Hid (nbits x = 8 + (Int.tmod x 249).natAbs) := (rfl : nbits x = 8 + (Int.tmod x 249).natAbs)
  have e0 := HE.out
  have r1 : -249 < Int.tmod x 249 ∧ Int.tmod x 249 < 249 := by omega
  obtain ⟨n, hn⟩ : ∃ n, n = nbits x := ⟨_, rfl⟩
  rw [← hn] at HE ⊢
  clear hb e0 hn
  by_cases hn : Int.tmod x 249 < 0
  · have HV : Hid ((n : Int) = 8 + -Int.tmod x 249) := by show (n : Int) = 8 + -Int.tmod x 249; have := HE.out; omega
    go_enter Tryz.func24, Tryz.ntmps24
    go_wp2_with fail
    go_ret
    refine ⟨?_, rfl⟩
    rw [HV.out]; rfl
  · have HV : Hid ((n : Int) = 8 + Int.tmod x 249) := by show (n : Int) = 8 + Int.tmod x 249; have := HE.out; omega
    go_enter Tryz.func24, Tryz.ntmps24
    go_wp2_with fail
    go_ret
    refine ⟨?_, rfl⟩
    rw [HV.out]; rfl


theorem sec_nil (w : World) : Calls Tryz.prog 31 #[nilS] w fun e w' => ∃ a b c s, e = .returned (.slice a 32 c) ∧ Dg.Vw w' a b 0 s ∧ s.length = 32 ∧ Below w.heap.size w w' := by
  refine (Dg.secret_any w none 0 0 0 0 (fun _ => 0) ⟨fun k => by omega, fun i hi => by omega, fun i hi => by omega, by omega⟩ (fun _ => by decide)).mono ?_
  rintro e w' ⟨a', g', c', rfl, h1, h2, h3, h4, h5, h6⟩
  exact ⟨a', g', c', _, rfl, h4, Dg.lst_len _ _, h6⟩
set_option maxRecDepth 100000 in
set_option maxHeartbeats 200000 in
theorem book_any (w : World) (hG : Dg.Ground w) (x : Int)  :
    Calls Tryz.prog 8 #[.int .i64 x] w fun e w' => ∃ bk F, e = .returned (.pointer (some ⟨bk, 0, none⟩)) ∧ Bk w' bk (nbits (wrap64 (x - 8))) 0 F ∧ (∀ i, F i → w.heap.size ≤ i) ∧ Below w.heap.size w w' := by
  have HG : Hid (Dg.Ground w) := hG
  have KB := fun w => bits_any w (wrap64 (x - 8))
  have HN : Hid (8 ≤ nbits (wrap64 (x - 8)) ∧ nbits (wrap64 (x - 8)) ≤ 256) := nbits_le _
  obtain ⟨N, eN⟩ : ∃ N, N = nbits (wrap64 (x - 8)) := ⟨_, rfl⟩
  rw [← eN] at HN ⊢
  simp only [← eN] at KB
  clear hG eN
  go_enter Tryz.func8, Tryz.ntmps8
  go_wp2_with (go_at_call 24; change Hid (Calls _ _ _ _ _))
  unfold Hid
  refine (KB _).mono ?_
  rintro _ w1 ⟨rfl, hw⟩
  rw [hw]
  clear hw w1 KB
  go_wp2_with (go_at_call 31; change Hid (Calls _ _ _ _ _))
  unfold Hid
  refine (sec_nil _).mono ?_
  rintro _ w2 ⟨sa, sk, sc, ss, rfl, hv2, hl2, hb2⟩
  have H2 : Hid (Dg.Vw w2 sa sk 0 ss ∧ ss.length = 32 ∧ Below w.heap.size w w2) := ⟨hv2, hl2, hb2⟩
  clear hv2 hl2 hb2
  go_wp2_with (go_at_call 30; change Hid (Calls _ _ _ _ _))
  unfold Hid
  refine (Dg.new_ok w2 N 256 sa sk 0 sc ss H2.out.1 HN.out (by omega) H2.out.2.1 w2.heap.size (Nat.le_refl _)).mono ?_
  rintro _ w3 ⟨bk, FB, rfl, hb3, hk3, hf3⟩
  have H3 : Hid (Below w2.heap.size w2 w3 ∧ Dg.Book w3 w2.heap.size bk ⟨N, 256, Dg.gd ss, [], [], []⟩ FB ∧ ∀ i, FB i → w2.heap.size ≤ i) := ⟨hb3, hk3, hf3⟩
  clear hb3 hk3 hf3
  go_wp2_with fail
  go_ret
  have z := H2.out.2.2.size
  have g := (HG.out.below H2.out.2.2).big
  exact ⟨bk, FB, rfl, ⟨w2.heap.size, _, H3.out.2.1, g, rfl, Nat.le_refl _⟩, fun i q => by have := H3.out.2.2 i q; omega, ch H2.out.2.2 H3.out.1⟩

end Go.Proofs.YtepeolbbplodfaaGreatDoor

/-
  The root of the empty trie: node.Empty, cairnref07.Empty.
-/
namespace Go.Proofs.YtepeolbbplodfaaGreatDoor
open Go.RowKit Go.Maps

theorem zeroH : (Tryz.prog.info? 31).map (fun i => (i.zero, i.size)) = some (some (.agg (bv z32).toArray), 32) := by kernel_rfl
theorem zvH (w : World) : (zeroValue 31).run Tryz.prog w = .ok (.agg (bv z32).toArray) w := (zero_of_info zeroH).1 w
theorem z32_isH : IsH z32 := ⟨z32_len, z32_lt⟩
theorem all_bv (s : List Nat) : (bv s).toArray.all (·.oneCell') = true := all_oneCell_toArray (bv_one s)
theorem resH {fn : Func} {p : Tmp} (h : fn.results = #[.cell p 31]) (tmps : Array Value) (w : World) (g : Nat) (s : List Nat) (hs : IsH s) (hg : w.rangeAt g 0 (bv s)) (hp : tmps.getD p undef = .pointer (some ⟨g, 0, none⟩)) :
    (results fn tmps).run Tryz.prog w = .ok (.agg (bv s).toArray) w := by
  have hl := run_loadVar_mid w g 0 31 _ _ hg Tryz.underlying31 rfl (info_bv hs.1)
  have hp' : tmps[p]?.getD undef = .pointer (some ⟨g, 0, none⟩) := by simpa using hp
  simp [results, h, hp', asAddr, hl]
theorem wpList_stH {ops : Array Oper} {rest : List Oper} {op : Oper} {a : Act} {w : World} {Q : Exit → Act → World → Prop} (hw : Region.wanted op (yielded ops a.tmps) = true) (x y : Operand) (ho : op.op = .store 31 x y) (b : Nat) (s z : List Nat) (hs : IsH s) (hz : IsH z) (hb : w.heap[b]? = some (.cells (bv z).toArray 31 (0, 0)))
    (hx : a.eval x = .pointer (some ⟨b, 0, none⟩)) (hy : a.eval y = .agg (bv s).toArray) (h : wpList Tryz.prog ops Q rest (a.put op.dst undef) (w.setRow b (bv s).toArray)) : wpList Tryz.prog ops Q (op :: rest) a w :=
  wpList_g hw (wp_store_row 31 x y ho b (bv s).toArray hx hy 31 (bv z).toArray hb (by rw [List.size_toArray]; exact info_bv hs.1) (by rw [List.size_toArray, List.size_toArray, bv_len, bv_len, hs.1, hz.1]) (all_bv s) h)
theorem vo_128 (F : Nat → Prop) (w : World) (hF : ¬ F w.heap.size) : Vo F (w.alloc (.cells #[.int .u8 128] 5)) (.slice (some ⟨w.heap.size, 0, none⟩) 1 1) s128 := by
  refine ⟨_, w.heap.size, 0, 1, rfl, ⟨fun _ => rfl, fun i hi => ?_, fun i hi => ?_, by decide⟩, by decide, (fun q => by cases q), by decide, fun _ => ⟨hF, by simp⟩⟩
  · obtain rfl : i = 0 := by have : i < 1 := hi; omega
    rw [cell_of_row _ _ _ _ _ _ (heap_alloc_new w _)]
    rfl
  · obtain rfl : i = 0 := by have : i < 1 := hi; omega
    exact ⟨by decide, by decide⟩
set_option maxRecDepth 100000 in
set_option maxHeartbeats 1600000 in
theorem nEmpty_any {w : World} {bk bits N : Nat} {F : Nat → Prop} (h : Bk w bk bits N F) (hG : Dg.Ground w) (hN : N ≤ 1000) :
    Calls Tryz.prog 53 #[.pointer (some ⟨bk, 0, none⟩)] w fun e w' => e = .returned (.agg (bv (Dg.kh bits s128)).toArray) ∧ Turn F w w' ∧ ∃ F', Bk w' bk bits (N + 1) F' ∧ ∀ i, F' i → F i ∨ w.heap.size ≤ i := by
  have hz := zvH
  have hlim := h.lim
  have HL : Hid (∀ i, F i → i < w.heap.size) := fun i q => (hlim i q).2
  have HG0 : Hid (Below w.heap.size w ((w.alloc (.cells (bv z32).toArray 31)).alloc (.cells #[.int .u8 128] 5)) ∧ ((w.alloc (.cells (bv z32).toArray 31)).alloc (.cells #[.int .u8 128] 5)).heap[w.heap.size]? = some (.cells (bv z32).toArray 31 (0, 0)) ∧ ((w.alloc (.cells (bv z32).toArray 31)).alloc (.cells #[.int .u8 128] 5)).heap.size = w.heap.size + 2) := ⟨ch (below_alloc _ _) (below_alloc _ _), by rw [heap_alloc_old _ _ (by simp)]; exact heap_alloc_new _ _, by simp⟩
  have vf := vo_128 F (w.alloc (.cells (bv z32).toArray 31)) (fun q => by have := HL.out _ q; simp at this; omega)
  rw [World.size_alloc] at vf
  have K := bk_hash (h.keep HG0.out.1) (hG.below HG0.out.1) hN vf
  have hk : IsH (Dg.kh bits s128) := isH_kh bits s128
  obtain ⟨k, ek⟩ : ∃ k, k = Dg.kh bits s128 := ⟨_, rfl⟩
  rw [← ek] at K hk ⊢
  obtain ⟨zz, ez⟩ : ∃ z, z = z32 := ⟨_, rfl⟩
  have hzz : IsH zz := by rw [ez]; exact z32_isH
  rw [← ez] at K HG0 hz
  clear ez ek h hG hlim vf
  go_enter Tryz.func53, Tryz.ntmps53
  go_wp2_with (first
    | (go_at_call 20; go_loud (refine K.mono ?_; rintro e w2 ⟨rfl, t2, F', q3, q2⟩; have g4 := (fun g => (t2.block w.heap.size (by rw [HG0.out.2.2]; omega) g).trans HG0.out.2.1) (fun q => by have := HL.out _ q; omega); have HZ : Hid (Bk w2 bk bits (N + 1) F' ∧ (∀ i, F' i → F i ∨ w.heap.size + 2 ≤ i) ∧ Turn F w w2) := ⟨q3, (by rw [HG0.out.2.2] at q2; exact q2), (Turn.of_below HG0.out.1).trans t2 (fun i q => Or.inl q)⟩; clear K t2 q3 q2))
    | refine wpList_stH (by kernel_rfl) _ _ (by rfl) w.heap.size k zz hk hzz g4 (by rfl) (by rfl) ?_)
  have hr3 := setRow_heap w2 w.heap.size _ (bv k).toArray _ _ g4
  refine bodyPost_ret (resH rfl _ _ w.heap.size k hk (rng_row hr3) rfl) rfl ?_
  obtain ⟨q3, q2, t⟩ := HZ.out
  refine ⟨rfl, t.trans (Turn.setRow (F := fun i => i = w.heap.size) _ _ _ rfl) (fun i q => Or.inr (by omega)), F', ?_, fun i q => (q2 i q).imp id (fun z => by omega)⟩
  exact q3.turn (Turn.setRow (F := fun i => i = w.heap.size) _ _ _ rfl) (fun i q z => by
    rcases q2 i q with y | y
    · have := HL.out i y; omega
    · omega)
theorem rhash_vb {w : World} {v : Value} {t : List Nat} (hv : Vb w v t) (bits : Nat) (hb : bits ≤ 256) (hG : Dg.Gr w) :
    Calls Tryz.prog 37 #[.int .i64 bits, v] w fun e w' => e = .returned (.agg (bv (Dg.kh bits t)).toArray) ∧ Below w.heap.size w w' := by
  obtain ⟨a, b, off, c, rfl, hv, hc, hn, hl⟩ := hv
  exact Dg.rhashN_any w bits hb a b off c t (vDg hv) hn (by omega) hG
set_option maxRecDepth 100000 in
set_option maxHeartbeats 1600000 in
theorem rEmpty_any {w : World} (hG : Dg.Gr w) (bits : Nat) (hb : bits ≤ 256) :
    Calls Tryz.prog 48 #[.int .i64 (bits : Nat)] w fun e w' => e = .returned (.agg (bv (Dg.kh bits s128)).toArray) ∧ Below w.heap.size w w' := by
  have hz := zvH
  have HG0 : Hid (Below w.heap.size w ((w.alloc (.cells (bv z32).toArray 31)).alloc (.cells #[.int .u8 128] 5)) ∧ ((w.alloc (.cells (bv z32).toArray 31)).alloc (.cells #[.int .u8 128] 5)).heap[w.heap.size]? = some (.cells (bv z32).toArray 31 (0, 0)) ∧ ((w.alloc (.cells (bv z32).toArray 31)).alloc (.cells #[.int .u8 128] 5)).heap.size = w.heap.size + 2) := ⟨ch (below_alloc _ _) (below_alloc _ _), by rw [heap_alloc_old _ _ (by simp)]; exact heap_alloc_new _ _, by simp⟩
  have vf := (vo_128 (fun _ => False) (w.alloc (.cells (bv z32).toArray 31)) (fun q => q)).vb
  rw [World.size_alloc] at vf
  have K := rhash_vb vf bits hb (hG.below HG0.out.1)
  have hk : IsH (Dg.kh bits s128) := isH_kh bits s128
  obtain ⟨k, ek⟩ : ∃ k, k = Dg.kh bits s128 := ⟨_, rfl⟩
  rw [← ek] at K hk ⊢
  obtain ⟨zz, ez⟩ : ∃ z, z = z32 := ⟨_, rfl⟩
  have hzz : IsH zz := by rw [ez]; exact z32_isH
  rw [← ez] at K HG0 hz
  clear ez ek hG vf hb
  go_enter Tryz.func48, Tryz.ntmps48
  go_wp2_with (first
    | (go_at_call 37; go_loud (refine K.mono ?_; rintro e w2 ⟨rfl, b2⟩; have g4 := (b2.block _ (Array.getElem?_eq_some_iff.1 HG0.out.2.1).1).trans HG0.out.2.1; have HZ : Hid (Below w.heap.size w w2) := ch HG0.out.1 b2; clear K b2))
    | refine wpList_stH (by kernel_rfl) _ _ (by rfl) w.heap.size k zz hk hzz g4 (by rfl) (by rfl) ?_)
  have hr3 := setRow_heap w2 w.heap.size _ (bv k).toArray _ _ g4
  refine bodyPost_ret (resH rfl _ _ w.heap.size k hk (rng_row hr3) rfl) rfl ?_
  exact ⟨rfl, Dg.below_setRow HZ.out (Nat.le_refl _) _⟩
end Go.Proofs.YtepeolbbplodfaaGreatDoor
