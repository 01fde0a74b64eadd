import Derived.Test.YtpmdjopojcgpeaaGreatDoorH3q
import Derived.Test.YtpmdjopojcgpeaaGreatDoorQHshq
import Derived.Test.YtpmdjopojcgpeaaGreatDoorQSecq
/-
  A device's Get of what is not there; a book that hashes.
-/
namespace Go.Proofs.YtpmdjopojcgpeaaGreatDoor
open Go.RowKit Go.Maps Go.ChangeMaps

theorem dev_get_no {w : World} {F : Nat → Prop} {g : Nat} {s : Dst} {N : Nat} {lg : Value} (h : Dev w F g s N lg) (hN : N ≤ 1073741800) {key : List Nat} (hk : IsH key) (hr : s.bl key = none) :
    Calls Tryz.prog 43 #[.pointer (some ⟨g, 0, none⟩), .agg (bv key).toArray] w fun e w' => ∃ b, e = .returned (.tuple #[b, .int .i64 81]) ∧ Tell F g (N + 6) (notd (setl s s.log) 1 81) (fun v => v = lg) [] w w' b := by
  have hrf : refu s 1 key 0 = 81 := by
    show (if (s.bl key).isSome = true then (0 : Int) else 81) = 81
    rw [hr]
    rfl
  refine (get_of (key := key) hk.1 (R := fun w1 w2 b ks c tag er => er = 81 ∧ Tell F g (N + 6) (notd (setl s s.log) 1 81) (fun v => v = lg) [] w1 w2 b) (fun w1 b1 => ?_)).mono ?_
  · obtain ⟨X, h1, h2, h3, h4, h5, h6⟩ := h.keep b1
    refine (access_first (Sp := fun s1 X1 _ er' xs' => s1 = s ∧ X1.lg = X.lg ∧ er' = 81 ∧ xs' = []) h1 h2 h3 h4 (by omega) hk z32_len (by omega) rfl (fun u hu => (honest_1r (h1.keep hu) (h2.keep hu) hk z32_len 0 0 0 (by rw [hrf]; decide)).mono (by
      rintro e w' ⟨rfl, hb⟩
      rw [hrf]
      exact ⟨nilS, 81, rfl, rfl, honp_read h1 h2 h3 h4 hu (xs := []) (World.ownsRow_nil _ _ _ _) hb 81⟩))).mono ?_
    rintro e w2 ⟨b, er, rfl, hob, hA⟩
    have her : er = 81 := by
      obtain ⟨_, _, _, _, _, _, _, _, _, _, _, _, _, q⟩ := hA
      exact q.2.2.1
    subst her
    exact ⟨b, nilS, 0, z32, 81, rfl, z32_len, hob, rfl, rfl, tell_of h5 hA (fun s1 X1 xs q => ⟨q.1, by show X1.lg = lg; rw [q.2.1, h6], q.2.2.2⟩)⟩
  · rintro e w' ⟨w1, w2, b, ks, c, tag, er, rfl, b1, ⟨rfl, F', lg', hD, hl, ht, hf, ho⟩, b2⟩
    refine ⟨b, rfl, F', lg', hD.keep b2, hl, ((Turn.of_below (F := F) b1).trans ht (fun _ q => Or.inl q)).trans (Turn.of_below (F := F) b2) (fun _ q => Or.inl q), fun i q => ⟨?_, (hf i q).2⟩, own_rebase (own_off ho (G := fun _ => False) (Turn.of_below b2) (Off.none _ _)) (fun i e => Nat.le_trans b1.size (ho.lt i e).1)⟩
    rcases (hf i q).1 with q | q
    · exact Or.inl q
    · exact Or.inr (Nat.le_trans b1.size q)

/-! ### a book -/
theorem dgT {F : Nat → Prop} {w w' : World} (h : Dg.Turn F w w') : Turn F w w' := ⟨h.os, h.tape, h.output, h.size, h.block⟩
theorem tDg {F : Nat → Prop} {w w' : World} (h : Turn F w w') : Dg.Turn F w w' := ⟨h.os, h.tape, h.output, h.size, h.block⟩
theorem vDg {w : World} {a : Option Addr} {b off n : Nat} {Z : Nat → Int} (h : View w a b off n Z) : Dg.View w a b off n Z := ⟨h.at_, h.cell, h.bd, h.len⟩
/-- A BOOK OF SO MANY BITS, with no more than N strings; the tables stand. -/
def Bk (w : World) (bk bits N : Nat) (F : Nat → Prop) : Prop := ∃ B st, Dg.Book w B bk st F ∧ 3 < B ∧ st.bits = bits ∧ st.LH.length ≤ N
theorem Bk.turn {w w' : World} {bk bits N : Nat} {F G : Nat → Prop} (h : Bk w bk bits N F) (t : Turn G w w') (hd : ∀ i, F i → ¬ G i) : Bk w' bk bits N F := by
  obtain ⟨B, st, h1, h2, h3⟩ := h
  exact ⟨B, st, h1.turn (tDg t) hd, h2, h3⟩
theorem Bk.keep {w w' : World} {bk bits N : Nat} {F : Nat → Prop} (h : Bk w bk bits N F) (k : Below w.heap.size w w') : Bk w' bk bits N F := h.turn (G := fun _ => False) (Turn.of_below k) (fun _ _ q => q)
theorem Bk.lim {w : World} {bk bits N : Nat} {F : Nat → Prop} (h : Bk w bk bits N F) : ∀ i, F i → 3 < i ∧ i < w.heap.size := by
  obtain ⟨B, st, h1, h2, _⟩ := h
  intro i q
  have := h1.lim i q
  exact ⟨by omega, this.2⟩
/-- the tables stand where nothing of theirs is turned -/
theorem ground_turn {G : Nat → Prop} {w w' : World} (h : Dg.Ground w) (t : Turn G w w') (hG : ∀ i, G i → 3 < i) : Dg.Ground w' := by
  have b : Below (3 + 1) w w' := t.below (fun i q => hG i q) h.big
  exact ⟨h.first.below b (by decide), h.roots.below b (Nat.lt_succ_self _), Nat.lt_of_lt_of_le h.big t.size⟩
theorem isH_kh (bits : Nat) (s : List Nat) : IsH (Dg.kh bits s) := Dg.kh_isH bits s
theorem ins_le1 (s : List Nat) : ∀ L : List (List Nat), (Dg.ins s L).length ≤ L.length + 1
  | [] => by simp [Dg.ins]
  | x :: r => by
    rw [Dg.ins_cons]
    split
    · simp
    · split
      · simp
      · have := ins_le1 s r
        simp only [List.length_cons]
        omega
theorem bk_hash {w : World} {bk bits N : Nat} {F : Nat → Prop} (h : Bk w bk bits N F) (hG : Dg.Ground w) (hN : N ≤ 1000) {sa : Option Addr} {m sc : Nat} {x : List Nat} (hv : Vo F w (.slice sa m sc) x) :
    Calls Tryz.prog 22 #[.pointer (some ⟨bk, 0, none⟩), .slice sa m sc] w fun e w' => e = .returned (.agg (bv (Dg.kh bits x)).toArray) ∧ Turn F w w' ∧ ∃ F', Bk w' bk bits (N + 1) F' ∧ (∀ i, F' i → F i ∨ w.heap.size ≤ i) := by
  obtain ⟨B, st, h1, h2, h3, h4⟩ := h
  obtain ⟨a, b, off, c, e, hvw, hc, _, hl, hf⟩ := hv
  rw [e]
  refine (Dg.hash_any4 w B bk st F h1 hG h2 (by omega) a b off c x (vDg hvw) hc (by omega) (fun h0 => (hf h0).1)).mono ?_
  rintro e w' ⟨rfl, q⟩
  rw [h3]
  obtain ⟨F', q1, q2, q3⟩ := q.book
  refine ⟨rfl, dgT q.turn, F', ⟨B, _, q3, h2, h3, ?_⟩, q2⟩
  have := ins_le1 x st.LH
  show (Dg.ins x st.LH).length ≤ N + 1
  omega
end Go.Proofs.YtpmdjopojcgpeaaGreatDoor

/-
  (*Store).right, of a blob that is right. (Written by gen_h5.py.)
-/
namespace Go.Proofs.YtpmdjopojcgpeaaGreatDoor
open Go.RowKit Go.Maps Go.ChangeMaps

section
variable {ops : Array Oper} {S : World → Prop} {o : Oper} {a : Act}
theorem y_eqlH (hw : Region.wanted o (yielded ops a.tmps) = true) (x y : Operand) (ho : o.op = .binOp .eql 38 x y 38) (u v : Array Value) (hx : a.eval x = .agg u) (hy : a.eval y = .agg v) (r : Bool) (he : ∀ w0 : World, (Op.equalIn 10000 38 (.agg u) (.agg v)).run Tryz.prog w0 = .ok r w0) : YieldsIf Tryz.prog ops S o (.bool r) a :=
  .inl ⟨hw, fun w _ => by
    have e := he w
    unfold execOp
    simp only [ho, hx, hy]
    go_simp⟩
end
set_option maxRecDepth 100000 in
set_option maxHeartbeats 6400000 in
theorem right_yes {w : World} {F : Nat → Prop} {sb g bk : Nat} {most : Int} {ord : Value} {mb mq N : Nat} {D : DataW Value} {V : List Nat → Value} {E : Nat → Prop} {ks : List (List Nat)} {bl : List Nat → Option (List Nat)} {cnt : Nat} (h : Cs w F sb g bk most ord mb mq N D V E ks bl cnt) {bits NB : Nat} {FB : Nat → Prop} (hb : Bk w bk bits NB FB) (hG : Dg.Ground w) (hNB : NB ≤ 1000) (hdj : ∀ i, FB i → ¬ F i) {key : List Nat} (hk : IsH key) {sa : Option Addr} {m sc : Nat} {x : List Nat} (hv : Vo FB w (.slice sa m sc) x) (hm : 1 ≤ m ∧ m ≤ 1024) (hkey : key = Dg.kh bits x) :
    Calls Tryz.prog 44 #[.pointer (some ⟨sb, 0, none⟩), .agg (bv key).toArray, .slice sa m sc] w fun e w' => e = .returned (.bool true) ∧ Turn FB w w' ∧ ∃ F', Bk w' bk bits (NB + 1) F' ∧ (∀ i, F' i → FB i ∨ w.heap.size ≤ i) := by
  obtain ⟨W, eW⟩ : ∃ W, W = w.alloc (.cells (bv key).toArray 38) := ⟨_, rfl⟩
  have b0 : Below w.heap.size w W := by rw [eW]; exact (Below.refl _ _).alloc (Nat.le_refl _) _
  have hkb : W.heap[w.heap.size]? = some (.cells (bv key).toArray 38 (0, 0)) := by rw [eW]; exact heap_alloc_new _ _
  have bW : Below w.heap.size w W.drew := b0.drew
  have HH : Hid (Calls Tryz.prog 22 #[.pointer (some ⟨bk, 0, none⟩), .slice sa m sc] W.drew fun e w' => e = .returned (.agg (bv key).toArray) ∧ Turn FB W.drew w' ∧ ∃ F', Bk w' bk bits (NB + 1) F' ∧ (∀ i, F' i → FB i ∨ W.drew.heap.size ≤ i)) := by
    rw [hkey]
    exact bk_hash (hb.keep bW) (hG.below bW) hNB (hv.keep bW)
  have HK : Hid (IsH key ∧ Stb W.drew sb g bk most ord mb mq ∧ W.drew.heap[w.heap.size]? = some (.cells (bv key).toArray 38 (0, 0)) ∧ ¬ FB sb ∧ (∀ i, FB i → i < w.heap.size) ∧ Below w.heap.size w W.drew) := ⟨hk, h.st.keep bW, hkb, fun q => hdj _ q h.fs.1, fun i q => (hb.lim i q).2, bW⟩
  have HEQ : Hid (∀ w0 : World, (Op.equalIn 10000 38 (.agg (bv key).toArray) (.agg (bv key).toArray)).run Tryz.prog w0 = .ok true w0) := fun w0 => by
    have := eqH_any w0 key key hk hk
    rw [decide_eq_true rfl] at this
    exact this
  have HI : Hid (isB m = true) := decide_eq_true hm
  have hml : m ≤ 140737488351232 := by omega
  clear h hb hG hk hv hm hkey b0 hkb bW hdj
  go_enter Tryz.func44, Tryz.ntmps44
  go_wp2_with fail
  rw [← eW]
  clear eW
  refine wp_region_held_drew (S := fun u => Stb u sb g bk most ord mb mq ∧ u.heap[w.heap.size]? = some (.cells (bv key).toArray 38 (0, 0))) (by kernel_rfl) (by exact ⟨HK.out.2.1, HK.out.2.2.1⟩) ?_
  intro hS
  change wpAnyH _ _ _ _ _ 13 _ _ _
  refine wpAnyH_take (i := 0) (v := (.slice sa m sc)) (by simp only [List.getElem?_toArray, List.getElem?_cons_zero]; rfl) (by kernel_rfl) (by kernel_rfl) (by kernel_rfl) (by exact fun _ _ _ h => h) (y_move (by kernel_rfl) _ rfl _ rfl) hS ?_
  try simp only [Act.put, List.setIfInBounds_toArray, List.set_cons_zero, List.set_cons_succ]
  refine wpAnyH_ready (rs := [1]) (by kernel_rfl) (by simp) ?_
  refine AllReadyH.cons (by simp only [List.getElem?_toArray, List.getElem?_cons_zero, List.getElem?_cons_succ]; rfl) (fun K hK => ?_) AllReadyH.nil
  go_simp
  refine (isBlob_any _ sa m sc hml).mono ?_
  rintro _ u2 ⟨rfl, hw⟩
  rw [hw, HI.out]
  clear hw u2
  refine hK.out _ _ hS (fun hS => ?_)
  clear hK K
  try simp only [Act.put, List.setIfInBounds_toArray, List.set_cons_zero, List.set_cons_succ]
  refine wpAnyH_take (i := 2) (v := (.bool true)) (by simp only [List.getElem?_toArray, List.getElem?_cons_zero, List.getElem?_cons_succ]; rfl) (by kernel_rfl) (by kernel_rfl) (by kernel_rfl) (by exact fun _ _ _ h => h) (y_move (by kernel_rfl) _ rfl _ rfl) hS ?_
  try simp only [Act.put, List.setIfInBounds_toArray, List.set_cons_zero, List.set_cons_succ]
  refine wpAnyH_take (i := 3) (v := (.pointer (some ⟨sb, 0, none⟩))) (by simp only [List.getElem?_toArray, List.getElem?_cons_zero, List.getElem?_cons_succ]; rfl) (by kernel_rfl) (by kernel_rfl) (by kernel_rfl) (by exact fun _ _ _ h => h) (y_move (by kernel_rfl) _ rfl _ rfl) hS ?_
  try simp only [Act.put, List.setIfInBounds_toArray, List.set_cons_zero, List.set_cons_succ]
  refine wpAnyH_take (i := 4) (v := (.pointer (some ⟨sb, 0, none⟩))) (by simp only [List.getElem?_toArray, List.getElem?_cons_zero, List.getElem?_cons_succ]; rfl) (by kernel_rfl) (by kernel_rfl) (by kernel_rfl) (by exact fun _ _ _ h => h) (y_nil (by kernel_rfl) _ rfl _ rfl) hS ?_
  try simp only [Act.put, List.setIfInBounds_toArray, List.set_cons_zero, List.set_cons_succ]
  refine wpAnyH_take (i := 5) (v := (.pointer (some ⟨sb, 0 + 1, none⟩))) (by simp only [List.getElem?_toArray, List.getElem?_cons_zero, List.getElem?_cons_succ]; rfl) (by kernel_rfl) (by kernel_rfl) (by kernel_rfl) (by exact fun _ _ _ h => h) (y_f_Sto1 (by kernel_rfl) _ rfl _ _ rfl) hS ?_
  try simp only [Act.put, List.setIfInBounds_toArray, List.set_cons_zero, List.set_cons_succ]
  refine wpAnyH_take (i := 6) (v := (.pointer (some ⟨bk, 0, none⟩))) (by simp only [List.getElem?_toArray, List.getElem?_cons_zero, List.getElem?_cons_succ]; rfl) (by kernel_rfl) (by kernel_rfl) (by kernel_rfl) (by exact fun _ _ _ h => h) (y_l_book (by kernel_rfl) _ rfl _ _ rfl _ (fun u hs => hs.1.at_.2.1)) hS ?_
  try simp only [Act.put, List.setIfInBounds_toArray, List.set_cons_zero, List.set_cons_succ]
  refine wpAnyH_take (i := 7) (v := (.slice sa m sc)) (by simp only [List.getElem?_toArray, List.getElem?_cons_zero, List.getElem?_cons_succ]; rfl) (by kernel_rfl) (by kernel_rfl) (by kernel_rfl) (by exact fun _ _ _ h => h) (y_move (by kernel_rfl) _ rfl _ rfl) hS ?_
  try simp only [Act.put, List.setIfInBounds_toArray, List.set_cons_zero, List.set_cons_succ]
  refine wpAnyH_take (i := 9) (v := (.agg (bv key).toArray)) (by simp only [List.getElem?_toArray, List.getElem?_cons_zero, List.getElem?_cons_succ]; rfl) (by kernel_rfl) (by kernel_rfl) (by kernel_rfl) (by exact fun _ _ _ h => h) (y_s_Hash (by kernel_rfl) _ rfl _ _ rfl key HK.out.1.1 (fun u hs => blk_rng hs.2)) hS ?_
  try simp only [Act.put, List.setIfInBounds_toArray, List.set_cons_zero, List.set_cons_succ]
  refine wpAnyH_ready (rs := [8]) (by kernel_rfl) (by simp) ?_
  refine AllReadyH.cons (by simp only [List.getElem?_toArray, List.getElem?_cons_zero, List.getElem?_cons_succ]; rfl) (fun K hK => ?_) AllReadyH.nil
  go_simp
  refine HH.out.mono ?_
  rintro _ u3 ⟨rfl, ht, hF'⟩
  have hS3 := (⟨hS.1.turn ht HK.out.2.2.2.1, ht.at_new hS.2 (fun q => by have := HK.out.2.2.2.2.1 _ q; omega)⟩ : Stb u3 sb g bk most ord mb mq ∧ u3.heap[w.heap.size]? = some (.cells (bv key).toArray 38 (0, 0)))
  have HFIN : Hid (Turn FB W.drew u3 ∧ ∃ F', Bk u3 bk bits (NB + 1) F' ∧ (∀ i, F' i → FB i ∨ W.drew.heap.size ≤ i)) := ⟨ht, hF'⟩
  clear ht hF'
  refine hK.out _ _ hS3 (fun hS => ?_)
  clear hK K
  try simp only [Act.put, List.setIfInBounds_toArray, List.set_cons_zero, List.set_cons_succ]
  refine wpAnyH_take (i := 10) (v := (.bool true)) (by simp only [List.getElem?_toArray, List.getElem?_cons_zero, List.getElem?_cons_succ]; rfl) (by kernel_rfl) (by kernel_rfl) (by kernel_rfl) (by exact fun _ _ _ h => h) (y_eqlH (by kernel_rfl) _ _ rfl _ _ rfl rfl true HEQ.out) hS ?_
  try simp only [Act.put, List.setIfInBounds_toArray, List.set_cons_zero, List.set_cons_succ]
  refine wpAnyH_take (i := 11) (v := (.bool true)) (by simp only [List.getElem?_toArray, List.getElem?_cons_zero, List.getElem?_cons_succ]; rfl) (by kernel_rfl) (by kernel_rfl) (by kernel_rfl) (by exact fun _ _ _ h => h) (y_pick_t (by kernel_rfl) _ _ _ rfl _ rfl rfl) hS ?_
  try simp only [Act.put, List.setIfInBounds_toArray, List.set_cons_zero, List.set_cons_succ]
  refine wpAnyH_take (i := 12) (v := (.bool true)) (by simp only [List.getElem?_toArray, List.getElem?_cons_zero, List.getElem?_cons_succ]; rfl) (by kernel_rfl) (by kernel_rfl) (by kernel_rfl) (by exact fun _ _ _ h => h) (y_assign (by kernel_rfl) _ rfl _ rfl) hS ?_
  try simp only [Act.put, List.setIfInBounds_toArray, List.set_cons_zero, List.set_cons_succ]
  refine wpAnyH_done (by kernel_rfl) ?_ _
  clear hS HH
  go_wp2_with fail
  go_ret
  obtain ⟨F', q1, q2⟩ := HFIN.out.2
  refine ⟨rfl, (Turn.of_below (F := FB) HK.out.2.2.2.2.2).trans HFIN.out.1 (fun _ q => Or.inl q), F', q1, fun i q => ?_⟩
  rcases q2 i q with q | q
  · exact Or.inl q
  · exact Or.inr (Nat.le_trans HK.out.2.2.2.2.2.size q)
end Go.Proofs.YtpmdjopojcgpeaaGreatDoor
