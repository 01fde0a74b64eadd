import Derived.Test.YtpmdjopojcgpeaaGreatDoorNnq
import Derived.Deep.DeepCutAuto
/-
  (*Device).access of a device without choices. (Written by gen_ac.py.)
-/
namespace Go.Proofs.YtpmdjopojcgpeaaGreatDoor
open Go.RowKit Go.Maps Go.ChangeMaps

section
variable {ops : Array Oper} {o : Oper} {a : Act} {Q : Exit → Act → World → Prop} {w : World} {K : Act → World → Prop} {E : Prop}
theorem r_new74 (hw : Region.wanted o (yielded ops a.tmps) = true) (ho : o.op = .alloc 161) (h : K (a.put o.dst (.pointer (some ⟨w.heap.size, 0, none⟩))) (w.alloc (.cells (anc nilS nilS 0 z32 0).toArray 161))) : if Region.wanted o (yielded ops a.tmps) = true then Oper.wp Tryz.prog o a w K Q else E := by
  refine r_val hw _ _ ?_ h
  have hz := zv74
  obtain ⟨Z, eZ⟩ : ∃ Z, Z = (anc nilS nilS 0 z32 0).toArray := ⟨_, rfl⟩
  rw [← eZ] at hz ⊢
  clear eZ
  unfold execOp
  simp only [ho]
  go_simp
end
/-- what honest comes to -/
def HonP (F : Nat → Prop) (g : Nat) (s : Dst) (X : Dx) (Sp : Dst → Dx → Value → Int → List Nat → Prop) (u w' : World) (b : Value) (er : Int) : Prop :=
  ∃ F1 X1 s1 xs, Db w' g (X1.dvf s1) ∧ Dr w' F1 s1 X1 ∧ Dat w' F1 X.lg s.log ∧ F1 g ∧ X1.N ≤ X.N + 4 ∧ Turn F u w' ∧ (∀ i, F1 i → i < w'.heap.size ∧ (F i ∨ u.heap.size ≤ i) ∧ b.ownBlock ≠ some i) ∧ w'.ownsRow u.heap.size 5 1 b xs.length (bv xs) ∧ Sp s1 X1 b er xs
/-- ahead of honest -/
structure Pre (w u : World) (cb : Nat) (rq : List Value) : Prop where
  below : Below w.heap.size w u
  rq : u.rangeAt w.heap.size 0 rq
  ab : u.heap[w.heap.size + 1]? = some (.cells (anc nilS nilS 0 z32 0).toArray 161 (0, 0))
  cbk : u.heap[cb]? = some (.cells #[.int .i64 0, .int .i64 0, .int .i64 0] 152 (0, 0))
  lt : w.heap.size + 1 < cb
theorem Pre.keep {w u u' : World} {cb : Nat} {rq : List Value} (h : Pre w u cb rq) (k : Below u.heap.size u u') : Pre w u' cb rq :=
  ⟨h.below.trans (k.mono h.below.size), rng_keep h.rq k, (k.block _ (Array.getElem?_eq_some_iff.1 h.ab).1).trans h.ab, (k.block _ (Array.getElem?_eq_some_iff.1 h.cbk).1).trans h.cbk, h.lt⟩
/-- behind honest -/
structure Aft (w u : World) (F : Nat → Prop) (g cb : Nat) (s : Dst) (X : Dx) (rq : List Value) (b : Value) (F1 : Nat → Prop) (s1 : Dst) (X1 : Dx) (xs : List Nat) : Prop where
  db : Db u g (X1.dvf s1)
  dr : Dr u F1 s1 X1
  lg : Dat u F1 X.lg s.log
  fg : F1 g
  N : X1.N ≤ X.N + 4
  turn : Turn F w u
  ft : ∀ i, F1 i → i < u.heap.size ∧ (F i ∨ w.heap.size ≤ i) ∧ b.ownBlock ≠ some i ∧ i ≠ w.heap.size ∧ i ≠ w.heap.size + 1 ∧ i ≠ cb
  own : u.ownsRow w.heap.size 5 1 b xs.length (bv xs)
  rq : u.rangeAt w.heap.size 0 rq
  ab : u.heap[w.heap.size + 1]? = some (.cells (anc nilS nilS 0 z32 0).toArray 161 (0, 0))
  cbk : u.heap[cb]? = some (.cells #[.int .i64 0, .int .i64 0, .int .i64 0] 152 (0, 0))
theorem Aft.keep {w u u' : World} {F : Nat → Prop} {g cb : Nat} {s : Dst} {X : Dx} {rq : List Value} {b : Value} {F1 : Nat → Prop} {s1 : Dst} {X1 : Dx} {xs : List Nat} (h : Aft w u F g cb s X rq b F1 s1 X1 xs) (k : Below u.heap.size u u') : Aft w u' F g cb s X rq b F1 s1 X1 xs :=
  ⟨h.db.keep k, h.dr.keep k, h.lg.off (G := fun _ => False) (Turn.of_below k) (Off.none _ _), h.fg, h.N, h.turn.trans (Turn.of_below (F := F) k) (fun _ q => Or.inl q), fun i q => by
    obtain ⟨q1, q2⟩ := h.ft i q
    exact ⟨Nat.lt_of_lt_of_le q1 k.size, q2⟩, own_off h.own (G := fun _ => False) (Turn.of_below k) (Off.none _ _), rng_keep h.rq k, (k.block _ (Array.getElem?_eq_some_iff.1 h.ab).1).trans h.ab, (k.block _ (Array.getElem?_eq_some_iff.1 h.cbk).1).trans h.cbk⟩
theorem aft_of {w u w' : World} {F : Nat → Prop} {g cb : Nat} {s : Dst} {X : Dx} {rq : List Value} (h0 : 0 < rq.length) {b : Value} {er : Int} {Sp : Dst → Dx → Value → Int → List Nat → Prop} (hp : Pre w u cb rq) (hcl : ∀ i, F i → i < w.heap.size) (hh : HonP F g s X Sp u w' b er) :
    ∃ F1 X1 s1 xs, Aft w w' F g cb s X rq b F1 s1 X1 xs ∧ Sp s1 X1 b er xs ∧ (∀ i, F1 i → i < w'.heap.size ∧ (F i ∨ u.heap.size ≤ i)) ∧ Turn F u w' := by
  obtain ⟨F1, X1, s1, xs, q1, q2, q3, q4, q5, q6, q7, q8, q9⟩ := hh
  have hs := hp.below.size
  have l1 := (Array.getElem?_eq_some_iff.1 hp.cbk).1
  have l2 := hp.lt
  refine ⟨F1, X1, s1, xs, ⟨q1, q2, q3, q4, q5, (Turn.of_below hp.below).trans q6 (fun _ q => Or.inl q), fun i q => ?_, own_rebase q8 (fun b hb => Nat.le_trans hs (q8.lt b hb).1), rng_same hp.rq (q6.block _ (rng_lt hp.rq h0) (fun q => by have := hcl _ q; omega)), q6.at_new hp.ab (fun q => by have := hcl _ q; omega), q6.at_new hp.cbk (fun q => by have := hcl _ q; omega)⟩, q9, fun i q => ⟨(q7 i q).1, (q7 i q).2.1⟩, q6⟩
  obtain ⟨r1, r2, r3⟩ := q7 i q
  refine ⟨r1, ?_, r3, ?_, ?_, ?_⟩
  · rcases r2 with r2 | r2
    · exact Or.inl r2
    · exact Or.inr (by omega)
  · rintro rfl
    rcases r2 with r2 | r2
    · have := hcl _ r2; omega
    · omega
  · rintro rfl
    rcases r2 with r2 | r2
    · have := hcl _ r2; omega
    · omega
  · rintro rfl
    rcases r2 with r2 | r2
    · have := hcl _ r2; omega
    · omega
theorem built82 (k c : Int) (e : Bool) : Tryz.prog.built 120 [(0, .int .i64 k), (1, .int .i64 c), (2, .bool e)] = some #[.int .i64 k, .int .i64 c, .bool e] := by kernel_rfl
theorem new_nb {w u : World} {cb : Nat} {rq : List Value} (hp : Pre w u cb rq) : Pre w (u.alloc (.cells (anc nilS nilS 0 z32 0).toArray 161)) cb rq ∧ (u.alloc (.cells (anc nilS nilS 0 z32 0).toArray 161)).heap[u.heap.size]? = some (.cells (anc nilS nilS 0 z32 0).toArray 161 (0, 0)) ∧ w.heap.size + 1 < u.heap.size ∧ u.heap.size ≠ cb := by
  have l1 := (Array.getElem?_eq_some_iff.1 hp.cbk).1
  have l2 := hp.lt
  exact ⟨hp.keep ((Below.refl _ _).alloc (Nat.le_refl _) _), heap_alloc_new _ _, by omega, by omega⟩
theorem new_nb2 {w u : World} {F : Nat → Prop} {g cb : Nat} {s : Dst} {X : Dx} {rq : List Value} {b : Value} {F1 : Nat → Prop} {s1 : Dst} {X1 : Dx} {xs : List Nat} (h : Aft w u F g cb s X rq b F1 s1 X1 xs) (hlt : w.heap.size + 1 < cb) : Aft w (u.alloc (.cells (anc nilS nilS 0 z32 0).toArray 161)) F g cb s X rq b F1 s1 X1 xs ∧ (u.alloc (.cells (anc nilS nilS 0 z32 0).toArray 161)).heap[u.heap.size]? = some (.cells (anc nilS nilS 0 z32 0).toArray 161 (0, 0)) ∧ w.heap.size + 1 < u.heap.size ∧ u.heap.size ≠ cb ∧ ¬ F1 u.heap.size := by
  have l1 := (Array.getElem?_eq_some_iff.1 h.cbk).1
  exact ⟨h.keep ((Below.refl _ _).alloc (Nat.le_refl _) _), heap_alloc_new _ _, by omega, by omega, fun q => Nat.lt_irrefl _ (h.ft _ q).1⟩
theorem Aft.setNb {w u u' : World} {F : Nat → Prop} {g cb nb : Nat} {s : Dst} {X : Dx} {rq : List Value} (h0 : 0 < rq.length) {b : Value} {F1 : Nat → Prop} {s1 : Dst} {X1 : Dx} {xs : List Nat} (h : Aft w u F g cb s X rq b F1 s1 X1 xs) {cs : Array Value} {fz : Nat × Nat} (hb : u.heap[nb]? = some (.cells cs 161 fz)) (hn : w.heap.size + 1 < nb) (hc : nb ≠ cb) (hf : ¬ F1 nb) (t : Turn (fun i => i = nb) u u') : Aft w u' F g cb s X rq b F1 s1 X1 xs :=
  ⟨h.db.turn t (fun e => hf (e ▸ h.fg)), h.dr.other hb (by decide) (by decide) (by decide) (by decide) (by decide) t, h.lg.off t (Off.blk hb (by decide)), h.fg, h.N, h.turn.trans t (fun i q => Or.inr (by omega)), fun i q => by
    obtain ⟨q1, q2⟩ := h.ft i q
    exact ⟨Nat.lt_of_lt_of_le q1 t.size, q2⟩, own_off h.own t (Off.blk hb (by decide)), rng_same h.rq (t.block _ (rng_lt h.rq h0) (by omega)), t.at_new h.ab (by omega), t.at_new h.cbk (fun e => hc e.symm)⟩
/-- what an access notes -/
def notd (s1 : Dst) (k er : Int) : Dst := { s1 with ac := s1.ac ++ [⟨k, 0, er == 0⟩] }
/-- what an access comes to -/
def AccP (F : Nat → Prop) (g : Nat) (s : Dst) (X : Dx) (Sp : Dst → Dx → Value → Int → List Nat → Prop) (k : Int) (w w' : World) (b : Value) (er : Int) : Prop :=
  ∃ F2 X2 s1 X1 xs, Db w' g (X2.dvf (notd (setl s1 s.log) k er)) ∧ Dr w' F2 (notd (setl s1 s.log) k er) X2 ∧ F2 g ∧ X2.N ≤ X.N + 6 ∧ X2.lg = X1.lg ∧ Turn F w w' ∧ (∀ i, F2 i → i < w'.heap.size ∧ (F i ∨ w.heap.size ≤ i) ∧ b.ownBlock ≠ some i) ∧ w'.ownsRow w.heap.size 5 1 b xs.length (bv xs) ∧ Sp s1 X1 b er xs
set_option maxRecDepth 100000 in
set_option maxHeartbeats 12800000 in
theorem access_first {w : World} {F : Nat → Prop} {g : Nat} {s : Dst} {X : Dx} {Sp : Dst → Dx → Value → Int → List Nat → Prop} (hd : Db w g (X.dvf s)) (h : Dr w F s X) (hF : F g) (hcl : ∀ i, F i → i < w.heap.size) (hN : X.N ≤ 1073741800) {k : Int} {key : List Nat} (hk : IsH key) {ba : Option Addr} {m bc : Nat} {n c : Int} {tag : List Nat} (ht : tag.length = 32) (hm : m ≤ 140737488351232) (hmay : mayB k m c = true)
    (HH0 : ∀ u, Below w.heap.size w u → Calls Tryz.prog 158 #[.pointer (some ⟨g, 0, none⟩), .agg (rqc k key (.slice ba m bc) n c tag).toArray, .agg #[.int .i64 0, .int .i64 0, .int .i64 0]] u fun e w' => ∃ b er, e = .returned (.agg (anc b nilS 0 z32 er).toArray) ∧ (b.oneCell' = true ∧ HonP F g s X Sp u w' b er)) :
    Calls Tryz.prog 90 #[.pointer (some ⟨g, 0, none⟩), .agg (rqc k key (.slice ba m bc) n c tag).toArray] w fun e w' => ∃ b er, e = .returned (.agg (anc b nilS 0 z32 er).toArray) ∧ b.oneCell' = true ∧ AccP F g s X Sp k w w' b er := by
  obtain ⟨W, eW⟩ : ∃ W, W = (w.alloc (.cells (rqc k key (.slice ba m bc) n c tag).toArray 164)).alloc (.cells (anc nilS nilS 0 z32 0).toArray 161) := ⟨_, rfl⟩
  have b1 : Below w.heap.size w (w.alloc (.cells (rqc k key (.slice ba m bc) n c tag).toArray 164)) := (Below.refl _ _).alloc (Nat.le_refl _) _
  have b2 := (Below.refl (w.alloc (.cells (rqc k key (.slice ba m bc) n c tag).toArray 164)).heap.size (w.alloc (.cells (rqc k key (.slice ba m bc) n c tag).toArray 164))).alloc (Nat.le_refl _) (.cells (anc nilS nilS 0 z32 0).toArray 161)
  have bW : Below w.heap.size w W := by rw [eW]; exact ch b1 b2
  have hrq : W.rangeAt w.heap.size 0 (rqc k key (.slice ba m bc) n c tag) := by rw [eW]; exact rng_keep (rng_new w _ _) b2
  have hab : W.heap[w.heap.size + 1]? = some (.cells (anc nilS nilS 0 z32 0).toArray 161 (0, 0)) := by
    have := heap_alloc_new (w.alloc (.cells (rqc k key (.slice ba m bc) n c tag).toArray 164)) (.cells (anc nilS nilS 0 z32 0).toArray 161)
    rw [eW]
    simpa using this
  have hgn : g < w.heap.size := hd.lt
  have hl0 : 0 < (rqc k key (.slice ba m bc) n c tag).length := by rw [rqc_len hk.1 ht]; decide
  have HHON : Hid (∀ u, Below w.heap.size w u → Calls Tryz.prog 158 #[.pointer (some ⟨g, 0, none⟩), .agg (rqc k key (.slice ba m bc) n c tag).toArray, .agg #[.int .i64 0, .int .i64 0, .int .i64 0]] u fun e w' => ∃ b er, e = .returned (.agg (anc b nilS 0 z32 er).toArray) ∧ (b.oneCell' = true ∧ HonP F g s X Sp u w' b er)) := HH0
  have HMAY : Hid (∀ u, Calls Tryz.prog 125 #[.agg (rqc k key (.slice ba m bc) n c tag).toArray] u fun e w' => e = .returned (.bool true) ∧ Below u.heap.size u w') := fun u => by
    have := mayBe_any u k key ba m bc n c tag hk.1 hm
    rw [hmay] at this
    exact this
  have HI : Hid ((Tryz.prog.info? 164).map (·.size) = some (rqc k key (.slice ba m bc) n c tag).length) := i77' hk.1 ht
  have HQ0 : Hid (∀ u : World, u.rangeAt w.heap.size 0 (rqc k key (.slice ba m bc) n c tag) → u.cell? ⟨w.heap.size, 0, none⟩ = some (.int .i64 k)) := fun u q => (rq_at u k key _ n c tag hk.1 q).1
  obtain ⟨L, eL⟩ : ∃ L, L = rqc k key (.slice ba m bc) n c tag := ⟨_, rfl⟩
  obtain ⟨Z, eZ⟩ : ∃ Z, Z = anc nilS nilS 0 z32 0 := ⟨_, rfl⟩
  have hz := zv74
  rw [← eL] at eW hrq hl0 HHON HMAY HI HQ0 ⊢
  rw [← eZ] at eW hz
  obtain ⟨cha, chc, ech⟩ := h.ch
  obtain ⟨ga, gc, eg⟩ := own_slice h.lg.own
  have HD : Hid (Db w g (X.dvf s) ∧ Dr w F s X ∧ (∀ i, F i → i < w.heap.size) ∧ F g ∧ X.N ≤ 1073741800 ∧ X.ch = .slice cha 0 chc ∧ X.lg = .slice ga s.log.length gc) := ⟨hd, h, hcl, hF, hN, ech, eg⟩
  have HRQ : Hid (W.rangeAt w.heap.size 0 L) := hrq
  have HAB : Hid (W.heap[w.heap.size + 1]? = some (.cells (anc nilS nilS 0 z32 0).toArray 161 (0, 0)) ∧ Below w.heap.size w W ∧ 0 < L.length) := ⟨hab, bW, hl0⟩
  obtain ⟨c0, c1, c2, c3, c4, c5, _⟩ := (hd.keep bW).at_
  have c5' : W.cell? ⟨g, 37, none⟩ = some (.bool false) := c5
  rw [eW] at HRQ c5'
  clear hd h hF hcl hN hk hm hmay HH0 b1 b2 bW hrq hab hl0 eL eZ ech eg c0 c1 c2 c3 c4 c5
  go_enter Tryz.func90, Tryz.ntmps90
  go_upto_region 9 with (first
    | refine wpList_load_mid_g (by kernel_rfl) 164 _ (by rfl) w.heap.size 0 (by rfl) L _ HRQ.out Tryz.underlying164 rfl HI.out ?_
    | (go_at_call 125; refine (HMAY.out _).mono ?_; rintro _ w1 ⟨rfl, hb1⟩; rw [← eW] at hb1 HRQ; have HB1 : Hid (Below W.heap.size W w1) := hb1; have HRQ2 : Hid (W.rangeAt w.heap.size 0 L) := HRQ.out; clear hb1 c5' HRQ)
    | (go_at_call 126; refine (next_nil (HD.out.1.keep (HAB.out.2.1.trans (HB1.out.mono HAB.out.2.1.size))) HD.out.2.2.2.2.2.1).mono ?_; rintro _ w2 ⟨rfl, hb2⟩; have HB2 : Hid (Below W.heap.size W w2) := ch HB1.out hb2; clear hb2; have c3 : ∀ o, (w2.alloc o).cell? ⟨g, 3, none⟩ = some (.slice ga s.log.length gc) := (fun o => by rw [← HD.out.2.2.2.2.2.2]; exact (HD.out.1.keep ((HAB.out.2.1.trans (HB2.out.mono HAB.out.2.1.size)).alloc (Nat.le_trans HAB.out.2.1.size HB2.out.size) o)).at_.2.2.2.1)))
  have HP : Hid (Pre w (w2.alloc (.cells #[.int .i64 0, .int .i64 0, .int .i64 0] 152)) w2.heap.size L) := by
    have l2 := (Array.getElem?_eq_some_iff.1 HAB.out.1).1
    have bb : Below W.heap.size W (w2.alloc (.cells #[.int .i64 0, .int .i64 0, .int .i64 0] 152)) := HB2.out.alloc HB2.out.size _
    exact ⟨HAB.out.2.1.trans (bb.mono HAB.out.2.1.size), rng_keep HRQ2.out bb, (bb.block _ l2).trans HAB.out.1, heap_alloc_new _ _, Nat.lt_of_lt_of_le l2 HB2.out.size⟩
  clear c3 HB1 HB2 HMAY hz eW
  generalize w2.alloc (.cells #[.int .i64 0, .int .i64 0, .int .i64 0] 152) = w3 at HP ⊢
  generalize w2.heap.size = cb at HP ⊢
  go_cut [7] (fun v7 wx => ∃ nb b er F1 s1 X1 xs, v7 = .pointer (some ⟨nb, 0, none⟩) ∧ Aft w wx F g cb s X L b F1 s1 X1 xs ∧ wx.heap[nb]? = some (.cells (anc b nilS 0 z32 er).toArray 161 (0, 0)) ∧ ¬ F1 nb ∧ w.heap.size + 1 < nb ∧ nb ≠ cb ∧ b.oneCell' = true ∧ Sp s1 X1 b er xs)
  case first =>
    refine wp_region_held_drew (S := fun u => u.rangeAt w.heap.size 0 L ∧ u.heap[cb]? = some (.cells #[.int .i64 0, .int .i64 0, .int .i64 0] 152 (0, 0))) (by kernel_rfl) (by exact ⟨HP.out.rq, HP.out.cbk⟩) ?_
    intro hS
    change wpAnyH _ _ _ _ _ 13 _ _ _
    have hp : Pre w w3.drew cb L := HP.out.keep (Below.refl _ _).drew
    generalize w3.drew = u0 at hS hp ⊢
    refine wpAnyH_take (i := 1) (v := (.pointer (some ⟨cb, 0, none⟩))) (by simp only [List.getElem?_toArray, List.getElem?_cons_zero, List.getElem?_cons_succ]; rfl) (by kernel_rfl) (by kernel_rfl) (by kernel_rfl) (by exact fun _ _ _ h => h) (y_f_Cho0 (by kernel_rfl) _ rfl _ _ rfl) hS ?_
    try simp only [Act.put, List.setIfInBounds_toArray, List.set_cons_zero, List.set_cons_succ]
    refine wpAnyH_take (i := 2) (v := (.int .i64 0)) (by simp only [List.getElem?_toArray, List.getElem?_cons_zero, List.getElem?_cons_succ]; rfl) (by kernel_rfl) (by kernel_rfl) (by kernel_rfl) (by exact fun _ _ _ h => h) (y_l_int (by kernel_rfl) _ rfl _ _ rfl _ (fun u hs => (blk_rng (cs := [.int .i64 0, .int .i64 0, .int .i64 0]) hs.2) 0 _ rfl)) hS ?_
    try simp only [Act.put, List.setIfInBounds_toArray, List.set_cons_zero, List.set_cons_succ]
    refine wpAnyH_take (i := 4) (v := (.pointer (some ⟨w.heap.size, 0, none⟩))) (by simp only [List.getElem?_toArray, List.getElem?_cons_zero, List.getElem?_cons_succ]; rfl) (by kernel_rfl) (by kernel_rfl) (by kernel_rfl) (by exact fun _ _ _ h => h) (y_f_Req0 (by kernel_rfl) _ rfl _ _ rfl) hS ?_
    try simp only [Act.put, List.setIfInBounds_toArray, List.set_cons_zero, List.set_cons_succ]
    refine wpAnyH_take (i := 5) (v := (.int .i64 k)) (by simp only [List.getElem?_toArray, List.getElem?_cons_zero, List.getElem?_cons_succ]; rfl) (by kernel_rfl) (by kernel_rfl) (by kernel_rfl) (by exact fun _ _ _ h => h) (y_l_int (by kernel_rfl) _ rfl _ _ rfl _ (fun u hs => HQ0.out u hs.1)) hS ?_
    try simp only [Act.put, List.setIfInBounds_toArray, List.set_cons_zero, List.set_cons_succ]
    refine wpAnyH_take (i := 7) (v := (.pointer (some ⟨g, 0, none⟩))) (by simp only [List.getElem?_toArray, List.getElem?_cons_zero, List.getElem?_cons_succ]; rfl) (by kernel_rfl) (by kernel_rfl) (by kernel_rfl) (by exact fun _ _ _ h => h) (y_move (by kernel_rfl) _ rfl _ rfl) hS ?_
    try simp only [Act.put, List.setIfInBounds_toArray, List.set_cons_zero, List.set_cons_succ]
    refine wpAnyH_take (i := 8) (v := (.agg L.toArray)) (by simp only [List.getElem?_toArray, List.getElem?_cons_zero, List.getElem?_cons_succ]; rfl) (by kernel_rfl) (by kernel_rfl) (by kernel_rfl) (by exact fun _ _ _ h => h) (y_s_Req (by kernel_rfl) _ rfl _ _ rfl L HI.out (fun u hs => hs.1)) hS ?_
    try simp only [Act.put, List.setIfInBounds_toArray, List.set_cons_zero, List.set_cons_succ]
    refine wpAnyH_take (i := 9) (v := (.agg [.int .i64 0, .int .i64 0, .int .i64 0].toArray)) (by simp only [List.getElem?_toArray, List.getElem?_cons_zero, List.getElem?_cons_succ]; rfl) (by kernel_rfl) (by kernel_rfl) (by kernel_rfl) (by exact fun _ _ _ h => h) (y_s_Cho (by kernel_rfl) _ rfl _ _ rfl [.int .i64 0, .int .i64 0, .int .i64 0] i27 (fun u hs => blk_rng (cs := [.int .i64 0, .int .i64 0, .int .i64 0]) hs.2)) hS ?_
    try simp only [Act.put, List.setIfInBounds_toArray, List.set_cons_zero, List.set_cons_succ]
    refine wpAnyH_ready (rs := [0, 11]) (by kernel_rfl) (by simp) ?_
    refine (AllReadyH.cons (by simp only [List.getElem?_toArray, List.getElem?_cons_zero]; rfl) (fun K hK => ?_) (AllReadyH.cons (by simp only [List.getElem?_toArray, List.getElem?_cons_zero, List.getElem?_cons_succ]; rfl) (fun K hK => ?_) AllReadyH.nil))
    · go_simp
      refine (deeds_any _).mono ?_
      rintro _ u0x00 ⟨rfl, hb⟩
      replace hp := hp.keep hb
      clear hb
      refine hK.out _ _ ⟨hp.rq, hp.cbk⟩ (fun hS => ?_)
      clear hK K
      try simp only [Act.put, List.setIfInBounds_toArray, List.set_cons_zero, List.set_cons_succ]
      refine wpAnyH_take (i := 3) (v := (.agg #[fh, fh, fh, fh])) (by simp only [List.getElem?_toArray, List.getElem?_cons_zero, List.getElem?_cons_succ]; rfl) (by kernel_rfl) (by kernel_rfl) (by kernel_rfl) (by exact fun _ _ _ h => h) (y_idx (by kernel_rfl) _ _ _ rfl _ _ _ rfl rfl idx0) hS ?_
      try simp only [Act.put, List.setIfInBounds_toArray, List.set_cons_zero, List.set_cons_succ]
      refine wpAnyH_ready (rs := [6, 11]) (by kernel_rfl) (by simp) ?_
      refine (AllReadyH.cons (by simp only [List.getElem?_toArray, List.getElem?_cons_zero, List.getElem?_cons_succ]; rfl) (fun K hK => ?_) (AllReadyH.cons (by simp only [List.getElem?_toArray, List.getElem?_cons_zero, List.getElem?_cons_succ]; rfl) (fun K hK => ?_) AllReadyH.nil))
      · go_simp
        refine (to_honest _ k).mono ?_
        rintro _ u0x00x16 ⟨rfl, hb⟩
        replace hp := hp.keep hb
        clear hb
        refine hK.out _ _ ⟨hp.rq, hp.cbk⟩ (fun hS => ?_)
        clear hK K
        try simp only [Act.put, List.setIfInBounds_toArray, List.set_cons_zero, List.set_cons_succ]
        refine wpAnyH_ready (rs := [10, 11]) (by kernel_rfl) (by simp) ?_
        refine (AllReadyH.cons (by simp only [List.getElem?_toArray, List.getElem?_cons_zero, List.getElem?_cons_succ]; rfl) (fun K hK => ?_) (AllReadyH.cons (by simp only [List.getElem?_toArray, List.getElem?_cons_zero, List.getElem?_cons_succ]; rfl) (fun K hK => ?_) AllReadyH.nil))
        · go_simp
          refine (HHON.out _ hp.below).mono ?_
          rintro _ u0x00x16x210 ⟨b, er, rfl, hob, hh⟩
          obtain ⟨F1, X1, s1, xs, hA, hSp, hft, htn⟩ := aft_of HAB.out.2.2 hp HD.out.2.2.1 hh
          clear hh hft htn
          refine hK.out _ _ ⟨hA.rq, hA.cbk⟩ (fun hS => ?_)
          clear hK K
          try simp only [Act.put, List.setIfInBounds_toArray, List.set_cons_zero, List.set_cons_succ]
          refine wpAnyH_ready (rs := [11]) (by kernel_rfl) (by simp) ?_
          refine (AllReadyH.cons (by simp only [List.getElem?_toArray, List.getElem?_cons_zero, List.getElem?_cons_succ]; rfl) (fun K hK => ?_) AllReadyH.nil)
          have hx := new_nb2 hA HP.out.lt
          refine r_new74 (by kernel_rfl) rfl ?_
          refine hK.out _ _ ⟨hx.1.rq, hx.1.cbk⟩ (fun hS => ?_)
          clear hK K
          try simp only [Act.put, List.setIfInBounds_toArray, List.set_cons_zero, List.set_cons_succ]
          generalize u0x00x16x210.alloc (.cells (anc nilS nilS 0 z32 0).toArray 161) = u0x00x16x210x311 at hx hS ⊢
          generalize u0x00x16x210.heap.size = nb at hx ⊢
          replace hA := hx.1
          have hnb : u0x00x16x210x311.heap[nb]? = some (.cells (anc nilS nilS 0 z32 0).toArray 161 (0, 0)) ∧ w.heap.size + 1 < nb ∧ nb ≠ cb := ⟨hx.2.1, hx.2.2.1, hx.2.2.2.1⟩
          have hnf : ¬ F1 nb := hx.2.2.2.2
          clear hx
          refine wpAnyH_ready (rs := [12]) (by kernel_rfl) (by simp) ?_
          refine AllReadyH.cons (by simp only [List.getElem?_toArray, List.getElem?_cons_zero, List.getElem?_cons_succ]; rfl) (fun K hK => ?_) AllReadyH.nil
          refine r_stS (by kernel_rfl) 161 _ _ (by rfl) nb (anc b nilS 0 z32 er) (anc nilS nilS 0 z32 0) (i74' z32_len) (by rw [anc_len z32_len, anc_len z32_len]) (anc_one hob rfl) hnb.1 (by rfl) (by rfl) ?_
          have t9 : Turn (fun i => i = nb) u0x00x16x210x311 (u0x00x16x210x311.setRow nb (anc b nilS 0 z32 er).toArray) := Turn.setRow _ _ _ rfl
          have hA9 := hA.setNb HAB.out.2.2 hnb.1 hnb.2.1 hnb.2.2 hnf t9
          have hn9 := setRow_heap' (cs' := (anc b nilS 0 z32 er).toArray) hnb.1
          refine hK.out _ _ ⟨hA9.rq, hA9.cbk⟩ (fun _ => ?_)
          clear hK K
          try simp only [Act.put]
          refine wpAnyH_done (by kernel_rfl) ?_ _
          try go_wp2_with fail
          go_meet
          exact ⟨nb, b, er, F1, s1, X1, xs, rfl, hA9, hn9, hnf, hnb.2.1, hnb.2.2, hob, hSp⟩
        · have hx := new_nb hp
          refine r_new74 (by kernel_rfl) rfl ?_
          refine hK.out _ _ ⟨hx.1.rq, hx.1.cbk⟩ (fun hS => ?_)
          clear hK K
          try simp only [Act.put, List.setIfInBounds_toArray, List.set_cons_zero, List.set_cons_succ]
          generalize u0x00x16.alloc (.cells (anc nilS nilS 0 z32 0).toArray 161) = u0x00x16x211 at hx hS ⊢
          generalize u0x00x16.heap.size = nb at hx ⊢
          replace hp := hx.1
          have hnb : u0x00x16x211.heap[nb]? = some (.cells (anc nilS nilS 0 z32 0).toArray 161 (0, 0)) ∧ w.heap.size + 1 < nb ∧ nb ≠ cb := hx.2
          clear hx
          refine wpAnyH_ready (rs := [10]) (by kernel_rfl) (by simp) ?_
          refine (AllReadyH.cons (by simp only [List.getElem?_toArray, List.getElem?_cons_zero, List.getElem?_cons_succ]; rfl) (fun K hK => ?_) AllReadyH.nil)
          go_simp
          refine (HHON.out _ hp.below).mono ?_
          rintro _ u0x00x16x211x210 ⟨b, er, rfl, hob, hh⟩
          obtain ⟨F1, X1, s1, xs, hA, hSp, hft, htn⟩ := aft_of HAB.out.2.2 hp HD.out.2.2.1 hh
          have hnf : ¬ F1 nb := fun q => by
            have l := (Array.getElem?_eq_some_iff.1 hnb.1).1
            rcases (hft _ q).2 with q2 | q2
            · have := HD.out.2.2.1 _ q2; have := hnb.2.1; omega
            · omega
          replace hnb := (⟨htn.at_new hnb.1 (fun q => by have := HD.out.2.2.1 _ q; have := hnb.2.1; omega), hnb.2⟩ : _ ∧ _ ∧ _)
          clear hh hft htn
          refine hK.out _ _ ⟨hA.rq, hA.cbk⟩ (fun hS => ?_)
          clear hK K
          try simp only [Act.put, List.setIfInBounds_toArray, List.set_cons_zero, List.set_cons_succ]
          refine wpAnyH_ready (rs := [12]) (by kernel_rfl) (by simp) ?_
          refine AllReadyH.cons (by simp only [List.getElem?_toArray, List.getElem?_cons_zero, List.getElem?_cons_succ]; rfl) (fun K hK => ?_) AllReadyH.nil
          refine r_stS (by kernel_rfl) 161 _ _ (by rfl) nb (anc b nilS 0 z32 er) (anc nilS nilS 0 z32 0) (i74' z32_len) (by rw [anc_len z32_len, anc_len z32_len]) (anc_one hob rfl) hnb.1 (by rfl) (by rfl) ?_
          have t9 : Turn (fun i => i = nb) u0x00x16x211x210 (u0x00x16x211x210.setRow nb (anc b nilS 0 z32 er).toArray) := Turn.setRow _ _ _ rfl
          have hA9 := hA.setNb HAB.out.2.2 hnb.1 hnb.2.1 hnb.2.2 hnf t9
          have hn9 := setRow_heap' (cs' := (anc b nilS 0 z32 er).toArray) hnb.1
          refine hK.out _ _ ⟨hA9.rq, hA9.cbk⟩ (fun _ => ?_)
          clear hK K
          try simp only [Act.put]
          refine wpAnyH_done (by kernel_rfl) ?_ _
          try go_wp2_with fail
          go_meet
          exact ⟨nb, b, er, F1, s1, X1, xs, rfl, hA9, hn9, hnf, hnb.2.1, hnb.2.2, hob, hSp⟩
      · have hx := new_nb hp
        refine r_new74 (by kernel_rfl) rfl ?_
        refine hK.out _ _ ⟨hx.1.rq, hx.1.cbk⟩ (fun hS => ?_)
        clear hK K
        try simp only [Act.put, List.setIfInBounds_toArray, List.set_cons_zero, List.set_cons_succ]
        generalize u0x00.alloc (.cells (anc nilS nilS 0 z32 0).toArray 161) = u0x00x111 at hx hS ⊢
        generalize u0x00.heap.size = nb at hx ⊢
        replace hp := hx.1
        have hnb : u0x00x111.heap[nb]? = some (.cells (anc nilS nilS 0 z32 0).toArray 161 (0, 0)) ∧ w.heap.size + 1 < nb ∧ nb ≠ cb := hx.2
        clear hx
        refine wpAnyH_ready (rs := [6]) (by kernel_rfl) (by simp) ?_
        refine (AllReadyH.cons (by simp only [List.getElem?_toArray, List.getElem?_cons_zero, List.getElem?_cons_succ]; rfl) (fun K hK => ?_) AllReadyH.nil)
        go_simp
        refine (to_honest _ k).mono ?_
        rintro _ u0x00x111x16 ⟨rfl, hb⟩
        replace hp := hp.keep hb
        replace hnb := (⟨(hb.block _ (Array.getElem?_eq_some_iff.1 hnb.1).1).trans hnb.1, hnb.2⟩ : _ ∧ _ ∧ _)
        clear hb
        refine hK.out _ _ ⟨hp.rq, hp.cbk⟩ (fun hS => ?_)
        clear hK K
        try simp only [Act.put, List.setIfInBounds_toArray, List.set_cons_zero, List.set_cons_succ]
        refine wpAnyH_ready (rs := [10]) (by kernel_rfl) (by simp) ?_
        refine (AllReadyH.cons (by simp only [List.getElem?_toArray, List.getElem?_cons_zero, List.getElem?_cons_succ]; rfl) (fun K hK => ?_) AllReadyH.nil)
        go_simp
        refine (HHON.out _ hp.below).mono ?_
        rintro _ u0x00x111x16x210 ⟨b, er, rfl, hob, hh⟩
        obtain ⟨F1, X1, s1, xs, hA, hSp, hft, htn⟩ := aft_of HAB.out.2.2 hp HD.out.2.2.1 hh
        have hnf : ¬ F1 nb := fun q => by
          have l := (Array.getElem?_eq_some_iff.1 hnb.1).1
          rcases (hft _ q).2 with q2 | q2
          · have := HD.out.2.2.1 _ q2; have := hnb.2.1; omega
          · omega
        replace hnb := (⟨htn.at_new hnb.1 (fun q => by have := HD.out.2.2.1 _ q; have := hnb.2.1; omega), hnb.2⟩ : _ ∧ _ ∧ _)
        clear hh hft htn
        refine hK.out _ _ ⟨hA.rq, hA.cbk⟩ (fun hS => ?_)
        clear hK K
        try simp only [Act.put, List.setIfInBounds_toArray, List.set_cons_zero, List.set_cons_succ]
        refine wpAnyH_ready (rs := [12]) (by kernel_rfl) (by simp) ?_
        refine AllReadyH.cons (by simp only [List.getElem?_toArray, List.getElem?_cons_zero, List.getElem?_cons_succ]; rfl) (fun K hK => ?_) AllReadyH.nil
        refine r_stS (by kernel_rfl) 161 _ _ (by rfl) nb (anc b nilS 0 z32 er) (anc nilS nilS 0 z32 0) (i74' z32_len) (by rw [anc_len z32_len, anc_len z32_len]) (anc_one hob rfl) hnb.1 (by rfl) (by rfl) ?_
        have t9 : Turn (fun i => i = nb) u0x00x111x16x210 (u0x00x111x16x210.setRow nb (anc b nilS 0 z32 er).toArray) := Turn.setRow _ _ _ rfl
        have hA9 := hA.setNb HAB.out.2.2 hnb.1 hnb.2.1 hnb.2.2 hnf t9
        have hn9 := setRow_heap' (cs' := (anc b nilS 0 z32 er).toArray) hnb.1
        refine hK.out _ _ ⟨hA9.rq, hA9.cbk⟩ (fun _ => ?_)
        clear hK K
        try simp only [Act.put]
        refine wpAnyH_done (by kernel_rfl) ?_ _
        try go_wp2_with fail
        go_meet
        exact ⟨nb, b, er, F1, s1, X1, xs, rfl, hA9, hn9, hnf, hnb.2.1, hnb.2.2, hob, hSp⟩
    · have hx := new_nb hp
      refine r_new74 (by kernel_rfl) rfl ?_
      refine hK.out _ _ ⟨hx.1.rq, hx.1.cbk⟩ (fun hS => ?_)
      clear hK K
      try simp only [Act.put, List.setIfInBounds_toArray, List.set_cons_zero, List.set_cons_succ]
      generalize u0.alloc (.cells (anc nilS nilS 0 z32 0).toArray 161) = u0x011 at hx hS ⊢
      generalize u0.heap.size = nb at hx ⊢
      replace hp := hx.1
      have hnb : u0x011.heap[nb]? = some (.cells (anc nilS nilS 0 z32 0).toArray 161 (0, 0)) ∧ w.heap.size + 1 < nb ∧ nb ≠ cb := hx.2
      clear hx
      refine wpAnyH_ready (rs := [0]) (by kernel_rfl) (by simp) ?_
      refine (AllReadyH.cons (by simp only [List.getElem?_toArray, List.getElem?_cons_zero]; rfl) (fun K hK => ?_) AllReadyH.nil)
      go_simp
      refine (deeds_any _).mono ?_
      rintro _ u0x011x00 ⟨rfl, hb⟩
      replace hp := hp.keep hb
      replace hnb := (⟨(hb.block _ (Array.getElem?_eq_some_iff.1 hnb.1).1).trans hnb.1, hnb.2⟩ : _ ∧ _ ∧ _)
      clear hb
      refine hK.out _ _ ⟨hp.rq, hp.cbk⟩ (fun hS => ?_)
      clear hK K
      try simp only [Act.put, List.setIfInBounds_toArray, List.set_cons_zero, List.set_cons_succ]
      refine wpAnyH_take (i := 3) (v := (.agg #[fh, fh, fh, fh])) (by simp only [List.getElem?_toArray, List.getElem?_cons_zero, List.getElem?_cons_succ]; rfl) (by kernel_rfl) (by kernel_rfl) (by kernel_rfl) (by exact fun _ _ _ h => h) (y_idx (by kernel_rfl) _ _ _ rfl _ _ _ rfl rfl idx0) hS ?_
      try simp only [Act.put, List.setIfInBounds_toArray, List.set_cons_zero, List.set_cons_succ]
      refine wpAnyH_ready (rs := [6]) (by kernel_rfl) (by simp) ?_
      refine (AllReadyH.cons (by simp only [List.getElem?_toArray, List.getElem?_cons_zero, List.getElem?_cons_succ]; rfl) (fun K hK => ?_) AllReadyH.nil)
      go_simp
      refine (to_honest _ k).mono ?_
      rintro _ u0x011x00x16 ⟨rfl, hb⟩
      replace hp := hp.keep hb
      replace hnb := (⟨(hb.block _ (Array.getElem?_eq_some_iff.1 hnb.1).1).trans hnb.1, hnb.2⟩ : _ ∧ _ ∧ _)
      clear hb
      refine hK.out _ _ ⟨hp.rq, hp.cbk⟩ (fun hS => ?_)
      clear hK K
      try simp only [Act.put, List.setIfInBounds_toArray, List.set_cons_zero, List.set_cons_succ]
      refine wpAnyH_ready (rs := [10]) (by kernel_rfl) (by simp) ?_
      refine (AllReadyH.cons (by simp only [List.getElem?_toArray, List.getElem?_cons_zero, List.getElem?_cons_succ]; rfl) (fun K hK => ?_) AllReadyH.nil)
      go_simp
      refine (HHON.out _ hp.below).mono ?_
      rintro _ u0x011x00x16x210 ⟨b, er, rfl, hob, hh⟩
      obtain ⟨F1, X1, s1, xs, hA, hSp, hft, htn⟩ := aft_of HAB.out.2.2 hp HD.out.2.2.1 hh
      have hnf : ¬ F1 nb := fun q => by
        have l := (Array.getElem?_eq_some_iff.1 hnb.1).1
        rcases (hft _ q).2 with q2 | q2
        · have := HD.out.2.2.1 _ q2; have := hnb.2.1; omega
        · omega
      replace hnb := (⟨htn.at_new hnb.1 (fun q => by have := HD.out.2.2.1 _ q; have := hnb.2.1; omega), hnb.2⟩ : _ ∧ _ ∧ _)
      clear hh hft htn
      refine hK.out _ _ ⟨hA.rq, hA.cbk⟩ (fun hS => ?_)
      clear hK K
      try simp only [Act.put, List.setIfInBounds_toArray, List.set_cons_zero, List.set_cons_succ]
      refine wpAnyH_ready (rs := [12]) (by kernel_rfl) (by simp) ?_
      refine AllReadyH.cons (by simp only [List.getElem?_toArray, List.getElem?_cons_zero, List.getElem?_cons_succ]; rfl) (fun K hK => ?_) AllReadyH.nil
      refine r_stS (by kernel_rfl) 161 _ _ (by rfl) nb (anc b nilS 0 z32 er) (anc nilS nilS 0 z32 0) (i74' z32_len) (by rw [anc_len z32_len, anc_len z32_len]) (anc_one hob rfl) hnb.1 (by rfl) (by rfl) ?_
      have t9 : Turn (fun i => i = nb) u0x011x00x16x210 (u0x011x00x16x210.setRow nb (anc b nilS 0 z32 er).toArray) := Turn.setRow _ _ _ rfl
      have hA9 := hA.setNb HAB.out.2.2 hnb.1 hnb.2.1 hnb.2.2 hnf t9
      have hn9 := setRow_heap' (cs' := (anc b nilS 0 z32 er).toArray) hnb.1
      refine hK.out _ _ ⟨hA9.rq, hA9.cbk⟩ (fun _ => ?_)
      clear hK K
      try simp only [Act.put]
      refine wpAnyH_done (by kernel_rfl) ?_ _
      try go_wp2_with fail
      go_meet
      exact ⟨nb, b, er, F1, s1, X1, xs, rfl, hA9, hn9, hnf, hnb.2.1, hnb.2.2, hob, hSp⟩
  case rest =>
    obtain ⟨nb, b, er, F1, s1, X1, xs, rfl, hA, hnb, hnf, hn1, hn2, hob, hSp⟩ := hcut
    have hcbl : w.heap.size + 1 < cb := HP.out.lt
    have HA : Hid (Aft w wc F g cb s X L b F1 s1 X1 xs ∧ ¬ F1 nb ∧ wc.heap[nb]? = some (.cells (anc b nilS 0 z32 er).toArray 161 (0, 0))) := ⟨hA, hnf, hnb⟩
    have HSP : Hid (Sp s1 X1 b er xs) := hSp
    have HSET : Hid (Calls Tryz.prog 129 #[.pointer (some ⟨g, 0, none⟩), .slice ga s.log.length gc] wc fun e w' => ∃ z, e = .returned z ∧ ∃ X', Db w' g (X'.dvf (setl s1 s.log)) ∧ Dr w' (fun i => F1 i ∨ wc.heap.size ≤ i) (setl s1 s.log) X' ∧ X'.N ≤ X1.N + 1 ∧ X'.E = X1.E ∧ X'.lg = X1.lg ∧ Turn (fun i => F1 i ∨ wc.heap.size ≤ i) wc w') := by
      have := settle_any hA.db (hA.dr.mono (F' := fun i => F1 i ∨ wc.heap.size ≤ i) (fun i q => Or.inl q)) (fun i q => Or.inr q) (Or.inl hA.fg) (by have := hA.N; have := HD.out.2.2.2.2.1; omega) (hA.lg.mono (fun i q => Or.inl q))
      rw [HD.out.2.2.2.2.2.2] at this
      exact this
    obtain ⟨lln, elln⟩ : ∃ q, q = s.log.length := ⟨_, rfl⟩
    rw [← elln] at HSET
    have e6 : (Value.slice ga s.log.length gc) = .slice ga lln gc := by rw [elln]
    rw [e6]
    clear hA hnf hnb hSp HHON HP elln e6
    go_wp2_with (go_at_call 129; refine HSET.out.mono ?_)
    rintro _ w6 ⟨z, rfl, X6, r1, r2, r3, r4, r5, r6⟩
    have lnb := (Array.getElem?_eq_some_iff.1 HA.out.2.2).1
    have lcb := (Array.getElem?_eq_some_iff.1 HA.out.1.cbk).1
    have lab := (Array.getElem?_eq_some_iff.1 HA.out.1.ab).1
    have nf : ∀ i, i < wc.heap.size → ¬ F1 i → ¬ (F1 i ∨ wc.heap.size ≤ i) := fun i hi hn q => by rcases q with q | q; exact hn q; omega
    have HB6 : Hid (w6.rangeAt w.heap.size 0 L ∧ w6.heap[cb]? = some (.cells #[.int .i64 0, .int .i64 0, .int .i64 0] 152 (0, 0)) ∧ w6.heap[nb]? = some (.cells (anc b nilS 0 z32 er).toArray 161 (0, 0)) ∧ w6.heap[w.heap.size + 1]? = some (.cells (anc nilS nilS 0 z32 0).toArray 161 (0, 0)) ∧ w6.ownsRow w.heap.size 5 1 b xs.length (bv xs) ∧ Turn F w w6) := by
      refine ⟨rng_same HA.out.1.rq (r6.block _ (by omega) (nf _ (by omega) (fun q => (HA.out.1.ft _ q).2.2.2.1 rfl))), r6.at_new HA.out.1.cbk (nf _ lcb (fun q => (HA.out.1.ft _ q).2.2.2.2.2 rfl)), r6.at_new HA.out.2.2 (nf _ lnb HA.out.2.1), r6.at_new HA.out.1.ab (nf _ lab (fun q => (HA.out.1.ft _ q).2.2.2.2.1 rfl)), own_turn HA.out.1.own r6 (fun i hi q => ?_), HA.out.1.turn.trans r6 (fun i q => ?_)⟩
      · rcases q with q | q
        · exact (HA.out.1.ft i q).2.2.1 hi
        · have := (HA.out.1.own.lt i hi).2; omega
      · rcases q with q | q
        · exact (HA.out.1.ft i q).2.1
        · exact Or.inr (Nat.le_trans HA.out.1.turn.size q)
    have HD6 : Hid (Db w6 g (X6.dvf (setl s1 s.log)) ∧ Dr w6 (fun i => F1 i ∨ wc.heap.size ≤ i) (setl s1 s.log) X6 ∧ X6.N ≤ X1.N + 1 ∧ X6.lg = X1.lg ∧ wc.heap.size ≤ w6.heap.size) := ⟨r1, r2, r3, r5, r6.size⟩
    clear r1 r2 r3 r4 r5 r6 nf HSET
    obtain ⟨aa, ac, ea⟩ := own_slice HD6.out.2.1.ac
    obtain ⟨s6, es6⟩ : ∃ q, q = setl s1 s.log := ⟨_, rfl⟩
    rw [← es6] at HD6 ea
    have HS6 : Hid (s6 = setl s1 s.log ∧ X6.ac = .slice aa s6.ac.length ac) := ⟨es6, ea⟩
    have c39 : ∀ o, (w6.drew.alloc o).cell? ⟨g, 0 + 39, none⟩ = some (.slice aa s6.ac.length ac) := fun o => by
      have := (HD6.out.1.keep (((Below.refl w6.heap.size w6).drew).alloc (Nat.le_refl _) o)).at_.2.2.2.2.2.2.2.1
      rw [← ea]
      exact this
    have c39' : w6.drew.cell? ⟨g, 0 + 39, none⟩ = some (.slice aa s6.ac.length ac) := by
      have := HD6.out.1.at_.2.2.2.2.2.2.2.1
      rw [← ea]
      exact this
    have HC : Hid ((∀ o, (w6.drew.alloc o).cell? ⟨g, 0 + 39, none⟩ = some (.slice aa s6.ac.length ac)) ∧ w6.drew.cell? ⟨g, 0 + 39, none⟩ = some (.slice aa s6.ac.length ac)) := ⟨c39, c39'⟩
    have HBD := built82 k 0 (er == 0)
    have HNA : Hid (∀ i, X6.ac.ownBlock = some i → ¬ (i = w.heap.size ∨ i = w.heap.size + 1 ∨ i = cb ∨ i = nb)) := fun i e q => by
      rcases HD6.out.2.1.acf i e with q1 | q1
      · obtain ⟨f1, f2, f3, f4, f5, f6⟩ := HA.out.1.ft i q1
        rcases q with q | q | q | q
        · exact f4 q
        · exact f5 q
        · exact f6 q
        · exact HA.out.2.1 (q ▸ q1)
      · omega
    clear c39 c39' es6 ea
    go_wp2_with fail
    refine wp_region_held_drew (S := fun u => u.rangeAt w.heap.size 0 L ∧ u.heap[cb]? = some (.cells #[.int .i64 0, .int .i64 0, .int .i64 0] 152 (0, 0)) ∧ u.heap[nb]? = some (.cells (anc b nilS 0 z32 er).toArray 161 (0, 0)) ∧ u.heap[w.heap.size + 1]? = some (.cells (anc nilS nilS 0 z32 0).toArray 161 (0, 0))) (by kernel_rfl) (by exact ⟨HB6.out.1, HB6.out.2.1, HB6.out.2.2.1, HB6.out.2.2.2.1⟩) ?_
    intro hS
    change wpAnyH _ _ _ _ _ 18 _ _ _
    refine wpAnyH_take (i := 0) (v := (.pointer (some ⟨g, 0, none⟩))) (by simp only [List.getElem?_toArray, List.getElem?_cons_zero]; rfl) (by kernel_rfl) (by kernel_rfl) (by kernel_rfl) (by exact fun _ _ _ h => h) (y_move (by kernel_rfl) _ rfl _ rfl) hS ?_
    try simp only [Act.put, List.setIfInBounds_toArray, List.set_cons_zero, List.set_cons_succ]
    refine wpAnyH_take (i := 1) (v := (.pointer (some ⟨g, 0, none⟩))) (by simp only [List.getElem?_toArray, List.getElem?_cons_zero, List.getElem?_cons_succ]; rfl) (by kernel_rfl) (by kernel_rfl) (by kernel_rfl) (by exact fun _ _ _ h => h) (y_move (by kernel_rfl) _ rfl _ rfl) hS ?_
    try simp only [Act.put, List.setIfInBounds_toArray, List.set_cons_zero, List.set_cons_succ]
    refine wpAnyH_take (i := 2) (v := (.pointer (some ⟨g, 0, none⟩))) (by simp only [List.getElem?_toArray, List.getElem?_cons_zero, List.getElem?_cons_succ]; rfl) (by kernel_rfl) (by kernel_rfl) (by kernel_rfl) (by exact fun _ _ _ h => h) (y_nil (by kernel_rfl) _ rfl _ rfl) hS ?_
    try simp only [Act.put, List.setIfInBounds_toArray, List.set_cons_zero, List.set_cons_succ]
    refine wpAnyH_take (i := 3) (v := (.pointer (some ⟨g, 0 + 39, none⟩))) (by simp only [List.getElem?_toArray, List.getElem?_cons_zero, List.getElem?_cons_succ]; rfl) (by kernel_rfl) (by kernel_rfl) (by kernel_rfl) (by exact fun _ _ _ h => h) (y_f_Dev7 (by kernel_rfl) _ rfl _ _ rfl) hS ?_
    try simp only [Act.put, List.setIfInBounds_toArray, List.set_cons_zero, List.set_cons_succ]
    refine wpAnyH_take (i := 5) (v := (.pointer (some ⟨w.heap.size, 0, none⟩))) (by simp only [List.getElem?_toArray, List.getElem?_cons_zero, List.getElem?_cons_succ]; rfl) (by kernel_rfl) (by kernel_rfl) (by kernel_rfl) (by exact fun _ _ _ h => h) (y_f_Req0 (by kernel_rfl) _ rfl _ _ rfl) hS ?_
    try simp only [Act.put, List.setIfInBounds_toArray, List.set_cons_zero, List.set_cons_succ]
    refine wpAnyH_take (i := 6) (v := (.int .i64 k)) (by simp only [List.getElem?_toArray, List.getElem?_cons_zero, List.getElem?_cons_succ]; rfl) (by kernel_rfl) (by kernel_rfl) (by kernel_rfl) (by exact fun _ _ _ h => h) (y_l_int (by kernel_rfl) _ rfl _ _ rfl _ (fun u hs => HQ0.out u hs.1)) hS ?_
    try simp only [Act.put, List.setIfInBounds_toArray, List.set_cons_zero, List.set_cons_succ]
    refine wpAnyH_take (i := 7) (v := (.pointer (some ⟨cb, 0, none⟩))) (by simp only [List.getElem?_toArray, List.getElem?_cons_zero, List.getElem?_cons_succ]; rfl) (by kernel_rfl) (by kernel_rfl) (by kernel_rfl) (by exact fun _ _ _ h => h) (y_f_Cho0 (by kernel_rfl) _ rfl _ _ rfl) hS ?_
    try simp only [Act.put, List.setIfInBounds_toArray, List.set_cons_zero, List.set_cons_succ]
    refine wpAnyH_take (i := 8) (v := (.int .i64 0)) (by simp only [List.getElem?_toArray, List.getElem?_cons_zero, List.getElem?_cons_succ]; rfl) (by kernel_rfl) (by kernel_rfl) (by kernel_rfl) (by exact fun _ _ _ h => h) (y_l_int (by kernel_rfl) _ rfl _ _ rfl _ (fun u hs => (blk_rng (cs := [.int .i64 0, .int .i64 0, .int .i64 0]) hs.2.1) 0 _ rfl)) hS ?_
    try simp only [Act.put, List.setIfInBounds_toArray, List.set_cons_zero, List.set_cons_succ]
    refine wpAnyH_take (i := 9) (v := (.pointer (some ⟨nb, 0 + 35, none⟩))) (by simp only [List.getElem?_toArray, List.getElem?_cons_zero, List.getElem?_cons_succ]; rfl) (by kernel_rfl) (by kernel_rfl) (by kernel_rfl) (by exact fun _ _ _ h => h) (y_f_Ans3 (by kernel_rfl) _ rfl _ _ rfl) hS ?_
    try simp only [Act.put, List.setIfInBounds_toArray, List.set_cons_zero, List.set_cons_succ]
    refine wpAnyH_take (i := 10) (v := (.int .i64 er)) (by simp only [List.getElem?_toArray, List.getElem?_cons_zero, List.getElem?_cons_succ]; rfl) (by kernel_rfl) (by kernel_rfl) (by kernel_rfl) (by exact fun _ _ _ h => h) (y_l_Errno (by kernel_rfl) _ rfl _ _ rfl _ (fun u hs => (an_at z32_len (rng_row hs.2.2.1)).2.2.2)) hS ?_
    try simp only [Act.put, List.setIfInBounds_toArray, List.set_cons_zero, List.set_cons_succ]
    refine wpAnyH_take (i := 11) (v := (.bool (er == 0))) (by simp only [List.getElem?_toArray, List.getElem?_cons_zero, List.getElem?_cons_succ]; rfl) (by kernel_rfl) (by kernel_rfl) (by kernel_rfl) (by exact fun _ _ _ h => h) (y_eqlEr (by kernel_rfl) _ _ rfl _ _ rfl rfl (er == 0) rfl) hS ?_
    try simp only [Act.put, List.setIfInBounds_toArray, List.set_cons_zero, List.set_cons_succ]
    refine wpAnyH_take (i := 12) (v := (.agg #[.int .i64 k, .int .i64 0, .bool (er == 0)])) (by simp only [List.getElem?_toArray, List.getElem?_cons_zero, List.getElem?_cons_succ]; rfl) (by kernel_rfl) (by kernel_rfl) (by kernel_rfl) (by exact fun _ _ _ h => h) (y_bd (by kernel_rfl) _ _ rfl _ HBD) hS ?_
    try simp only [Act.put, List.setIfInBounds_toArray, List.set_cons_zero, List.set_cons_succ]
    refine wpAnyH_ready (rs := [4, 13]) (by kernel_rfl) (by simp) ?_
    refine AllReadyH.cons (by simp only [List.getElem?_toArray, List.getElem?_cons_zero, List.getElem?_cons_succ]; rfl) (fun K hK => ?_) (AllReadyH.cons (by simp only [List.getElem?_toArray, List.getElem?_cons_zero, List.getElem?_cons_succ]; rfl) (fun K hK => ?_) AllReadyH.nil)
    · refine r_yield (y_l_acc (by kernel_rfl) _ rfl _ _ rfl (.slice aa s6.ac.length ac) (fun u hs => by rw [hs]; exact HC.out.2)) ?_
      refine hK.out _ _ hS (fun hS => ?_)
      clear hK K
      try simp only [Act.put, List.setIfInBounds_toArray, List.set_cons_zero, List.set_cons_succ]
      refine wpAnyH_ready (rs := [13]) (by kernel_rfl) (by simp) ?_
      refine AllReadyH.cons (by simp only [List.getElem?_toArray, List.getElem?_cons_zero, List.getElem?_cons_succ]; rfl) (fun K hK => ?_) AllReadyH.nil
      refine r_one_acc (by kernel_rfl) _ rfl (.agg #[.int .i64 k, .int .i64 0, .bool (er == 0)]) [.int .i64 k, .int .i64 0, .bool (er == 0)] rfl rfl rfl ?_
      refine hK.out _ _ ⟨rng_keep hS.1 ((Below.refl _ _).alloc (Nat.le_refl _) _), (heap_alloc_old _ _ (Array.getElem?_eq_some_iff.1 hS.2.1).1).trans hS.2.1, (heap_alloc_old _ _ (Array.getElem?_eq_some_iff.1 hS.2.2.1).1).trans hS.2.2.1, (heap_alloc_old _ _ (Array.getElem?_eq_some_iff.1 hS.2.2.2).1).trans hS.2.2.2⟩ (fun hS => ?_)
      clear hK K
      try simp only [Act.put, List.setIfInBounds_toArray, List.set_cons_zero, List.set_cons_succ]
      refine wpAnyH_ready (rs := [14]) (by kernel_rfl) (by simp) ?_
      refine AllReadyH.cons (by simp only [List.getElem?_toArray, List.getElem?_cons_zero, List.getElem?_cons_succ]; rfl) (fun K hK => ?_) AllReadyH.nil
      have bA : Below w6.heap.size w6 (w6.drew.alloc (.cells [.int .i64 k, .int .i64 0, .bool (er == 0)].toArray 120)) := ((Below.refl w6.heap.size w6).drew).alloc (Nat.le_refl _) _
      have hDr := HD6.out.2.1.keep bA
      have hDb := HD6.out.1.keep bA
      refine r_app_acc (by kernel_rfl) _ _ rfl (.slice aa s6.ac.length ac) s6.ac.length (acc3 s6.ac) rfl (by rw [← HS6.out.2]; exact hDr.ac) w6.drew.heap.size [.int .i64 k, .int .i64 0, .bool (er == 0)] rfl rfl (rng_new _ _ _) (fun u hu => by
        simp only [List.mem_cons, List.not_mem_nil, or_false] at hu
        rcases hu with rfl | rfl | rfl <;> rfl) (by have := hDr.bd.2.1; have := HD6.out.2.2.1; have := HA.out.1.N; have := HD.out.2.2.2.2.1; omega) ?_
      intro v' w7 own7 gr7 at7
      have gr7' : (w6.drew.alloc (.cells [.int .i64 k, .int .i64 0, .bool (er == 0)].toArray 120)).grownBy w7 X6.ac.ownBlock := by rw [HS6.out.2]; exact gr7
      have at7' : v'.ownBlock = X6.ac.ownBlock ∨ v'.ownBlock = some (w6.drew.alloc (.cells [.int .i64 k, .int .i64 0, .bool (er == 0)].toArray 120)).heap.size := by rw [HS6.out.2]; exact at7
      have t7 : Turn (fun i => X6.ac.ownBlock = some i) (w6.drew.alloc (.cells [.int .i64 k, .int .i64 0, .bool (er == 0)].toArray 120)) w7 := Turn.of_grown gr7' (fun _ e => e)
      have hS7 := (⟨rng_same hS.1 (t7.block _ (rng_lt hS.1 HAB.out.2.2) (fun e => HNA.out _ e (Or.inl rfl))), t7.at_new hS.2.1 (fun e => HNA.out _ e (Or.inr (Or.inr (Or.inl rfl)))), t7.at_new hS.2.2.1 (fun e => HNA.out _ e (Or.inr (Or.inr (Or.inr rfl)))), t7.at_new hS.2.2.2 (fun e => HNA.out _ e (Or.inr (Or.inl rfl)))⟩ : w7.rangeAt w.heap.size 0 L ∧ w7.heap[cb]? = some (.cells #[.int .i64 0, .int .i64 0, .int .i64 0] 152 (0, 0)) ∧ w7.heap[nb]? = some (.cells (anc b nilS 0 z32 er).toArray 161 (0, 0)) ∧ w7.heap[w.heap.size + 1]? = some (.cells (anc nilS nilS 0 z32 0).toArray 161 (0, 0)))
      have hDb7 : Db w7 g (X6.dvf s6) := hDb.turn t7 (fun e => own_ne_cells hDr.ac hDb.blk (by decide) e)
      have hDr7 := hDr.noted (x := ⟨k, 0, er == 0⟩) (fun i hi => Or.inr (Nat.le_trans HD6.out.2.2.2.2 (Nat.le_trans bA.size hi))) own7 gr7' at7'
      have hT7 : Turn F w w7 := ((HB6.out.2.2.2.2.2.trans (Turn.of_below (F := F) bA) (fun _ q => Or.inl q))).trans t7 (fun i e => by
        rcases hDr.acf i e with q | q
        · exact (HA.out.1.ft i q).2.1
        · exact Or.inr (Nat.le_trans HA.out.1.turn.size q))
      have hO7 : w7.ownsRow w.heap.size 5 1 b xs.length (bv xs) := own_off (own_off HB6.out.2.2.2.2.1 (G := fun _ => False) (Turn.of_below bA) (Off.none _ _)) t7 (Off.row hDr.ac (by decide))
      obtain ⟨va, vc, ev⟩ := own_slice own7
      subst ev
      clear own7 gr7 at7 gr7' at7'
      refine hK.out _ _ hS7 (fun hS => ?_)
      clear hK K
      try simp only [Act.put, List.setIfInBounds_toArray, List.set_cons_zero, List.set_cons_succ]
      refine wpAnyH_take (i := 15) (v := (.pointer (some ⟨g, 0, none⟩))) (by simp only [List.getElem?_toArray, List.getElem?_cons_zero, List.getElem?_cons_succ]; rfl) (by kernel_rfl) (by kernel_rfl) (by kernel_rfl) (by exact fun _ _ _ h => h) (y_nil (by kernel_rfl) _ rfl _ rfl) hS ?_
      try simp only [Act.put, List.setIfInBounds_toArray, List.set_cons_zero, List.set_cons_succ]
      refine wpAnyH_take (i := 16) (v := (.pointer (some ⟨g, 0 + 39, none⟩))) (by simp only [List.getElem?_toArray, List.getElem?_cons_zero, List.getElem?_cons_succ]; rfl) (by kernel_rfl) (by kernel_rfl) (by kernel_rfl) (by exact fun _ _ _ h => h) (y_f_Dev7 (by kernel_rfl) _ rfl _ _ rfl) hS ?_
      try simp only [Act.put, List.setIfInBounds_toArray, List.set_cons_zero, List.set_cons_succ]
      refine wpAnyH_ready (rs := [17]) (by kernel_rfl) (by simp) ?_
      refine AllReadyH.cons (by simp only [List.getElem?_toArray, List.getElem?_cons_zero, List.getElem?_cons_succ]; rfl) (fun K hK => ?_) AllReadyH.nil
      refine r_s_acc (by kernel_rfl) _ _ rfl g (0 + 39) rfl (.slice va (s6.ac.length + 1) vc) _ rfl ⟨_, _, _, rfl⟩ hDb7.at_.2.2.2.2.2.2.2.1 (hDb7.frz 39) ?_
      have t8 : Turn (fun i => i = g) w7 (w7.setCell ⟨g, 0 + 39, none⟩ (.slice va (s6.ac.length + 1) vc)) := Turn.setCell _ _ _ rfl
      have hgo : g ≠ nb := fun e => HA.out.2.1 (e ▸ HA.out.1.fg)
      have hS8 := (⟨rng_same hS.1 (t8.block _ (rng_lt hS.1 HAB.out.2.2) (by omega)), t8.at_new hS.2.1 (by omega), t8.at_new hS.2.2.1 (fun e => hgo e.symm), t8.at_new hS.2.2.2 (by omega)⟩ : (w7.setCell ⟨g, 0 + 39, none⟩ (.slice va (s6.ac.length + 1) vc)).rangeAt w.heap.size 0 L ∧ (w7.setCell ⟨g, 0 + 39, none⟩ (.slice va (s6.ac.length + 1) vc)).heap[cb]? = some (.cells #[.int .i64 0, .int .i64 0, .int .i64 0] 152 (0, 0)) ∧ (w7.setCell ⟨g, 0 + 39, none⟩ (.slice va (s6.ac.length + 1) vc)).heap[nb]? = some (.cells (anc b nilS 0 z32 er).toArray 161 (0, 0)) ∧ (w7.setCell ⟨g, 0 + 39, none⟩ (.slice va (s6.ac.length + 1) vc)).heap[w.heap.size + 1]? = some (.cells (anc nilS nilS 0 z32 0).toArray 161 (0, 0)))
      have HV8 : Hid (Db (w7.setCell ⟨g, 0 + 39, none⟩ (.slice va (s6.ac.length + 1) vc)) g ({ X6 with ac := (.slice va (s6.ac.length + 1) vc), N := X6.N + 1 }.dvf (notd s6 k er)) ∧ Dr (w7.setCell ⟨g, 0 + 39, none⟩ (.slice va (s6.ac.length + 1) vc)) (fun i => F1 i ∨ wc.heap.size ≤ i) (notd s6 k er) { X6 with ac := (.slice va (s6.ac.length + 1) vc), N := X6.N + 1 } ∧ Turn F w (w7.setCell ⟨g, 0 + 39, none⟩ (.slice va (s6.ac.length + 1) vc)) ∧ (w7.setCell ⟨g, 0 + 39, none⟩ (.slice va (s6.ac.length + 1) vc)).ownsRow w.heap.size 5 1 b xs.length (bv xs) ∧ (w7.setCell ⟨g, 0 + 39, none⟩ (.slice va (s6.ac.length + 1) vc)).rangeAt w.heap.size 0 L ∧ (w7.setCell ⟨g, 0 + 39, none⟩ (.slice va (s6.ac.length + 1) vc)).heap[cb]? = some (.cells #[.int .i64 0, .int .i64 0, .int .i64 0] 152 (0, 0)) ∧ (w7.setCell ⟨g, 0 + 39, none⟩ (.slice va (s6.ac.length + 1) vc)).heap[nb]? = some (.cells (anc b nilS 0 z32 er).toArray 161 (0, 0)) ∧ (w7.setCell ⟨g, 0 + 39, none⟩ (.slice va (s6.ac.length + 1) vc)).heap[w.heap.size + 1]? = some (.cells (anc nilS nilS 0 z32 0).toArray 161 (0, 0))) :=
        ⟨hDb7.setAc _, hDr7.self hDb7 t8, hT7.trans t8 (fun i e => Or.inl (by rw [e]; exact HD.out.2.2.2.1)), own_off hO7 t8 (Off.db hDb7 (by decide)), hS8⟩
      refine hK.out _ _ hS8 (fun _ => ?_)
      clear hS hS8 t8 hDb7 hDr7 hT7 hO7 hS7 t7 hDb hDr bA hgo
      clear hK K
      try simp only [Act.put]
      refine wpAnyH_done (by kernel_rfl) ?_ _
      clear HC HBD
      obtain ⟨X8, eX8⟩ : ∃ Y : Dx, Y = { X6 with ac := (.slice va (s6.ac.length + 1) vc), N := X6.N + 1 } := ⟨_, rfl⟩
      rw [← eX8] at HV8
      have HX8 : Hid (X8.N = X6.N + 1 ∧ X8.lg = X6.lg) := by rw [eX8]; exact ⟨rfl, rfl⟩
      clear eX8
      revert HV8
      generalize w7.setCell ⟨g, 0 + 39, none⟩ (.slice va (s6.ac.length + 1) vc) = w8
      intro HV8
      have o1 : (anc b nilS 0 z32 er).toArray.all (·.oneCell') = true := anc_one hob rfl
      have HL : Hid ((Tryz.prog.info? 161).map (·.size) = some (anc b nilS 0 z32 er).length ∧ (anc b nilS 0 z32 er).toArray.size = (anc nilS nilS 0 z32 0).toArray.size) := ⟨i74' z32_len, by rw [List.size_toArray, List.size_toArray, anc_len z32_len, anc_len z32_len]⟩
      have HN8 : Hid (w8.rangeAt nb 0 (anc b nilS 0 z32 er)) := rng_row HV8.out.2.2.2.2.2.2.1
      obtain ⟨A, eA⟩ : ∃ A, A = anc b nilS 0 z32 er := ⟨_, rfl⟩
      rw [← eA] at HN8 HL o1
      have HEA : Hid (A = anc b nilS 0 z32 er) := eA
      clear eA
      go_wp2_with (first
        | refine wpList_load_mid_g (by kernel_rfl) 161 _ (by rfl) nb 0 (by rfl) A _ HN8.out Tryz.underlying161 rfl HL.out.1 ?_
        | (refine wpList_g (by kernel_rfl) ?_; refine wp_store_row 161 _ _ (by rfl) (w.heap.size + 1) A.toArray (by rfl) (by rfl) 161 (anc nilS nilS 0 z32 0).toArray HV8.out.2.2.2.2.2.2.2 (by rw [List.size_toArray]; exact HL.out.1) (by first | exact HL.out.2 | exact HL.out.2.symm) o1 ?_))
      
      have eA := HEA.out
      subst eA
      have hr := setRow_heap' (cs' := (anc b nilS 0 z32 er).toArray) HV8.out.2.2.2.2.2.2.2
      have t9 : Turn (fun i => i = w.heap.size + 1) w8 (w8.setRow (w.heap.size + 1) (anc b nilS 0 z32 er).toArray) := Turn.setRow _ _ _ rfl
      have fin : AccP F g s X Sp k w (w8.setRow (w.heap.size + 1) (anc b nilS 0 z32 er).toArray) b er := by
        have hDr9 := (HV8.out.2.1.other HV8.out.2.2.2.2.2.2.2 (by decide) (by decide) (by decide) (by decide) (by decide) t9).clip
        have hDb9 := HV8.out.1.turn t9 (by omega)
        rw [HS6.out.1] at hDr9 hDb9
        refine ⟨_, _, s1, X1, xs, ?_, hDr9, ⟨Or.inl HA.out.1.fg, hDb9.lt⟩, ?_, ?_, HV8.out.2.2.1.trans t9 (fun i q => Or.inr (by omega)), fun i q => ⟨q.2, ?_, fun e => ?_⟩, own_off HV8.out.2.2.2.1 t9 (Off.blk HV8.out.2.2.2.2.2.2.2 (by decide)), HSP.out⟩
        · exact hDb9
        · have := HX8.out.1; have := HD6.out.2.2.1; have := HA.out.1.N; show X8.N ≤ X.N + 6; omega
        · show X8.lg = X1.lg
          rw [HX8.out.2, HD6.out.2.2.2.1]
        · rcases q.1 with q | q
          · exact (HA.out.1.ft i q).2.1
          · exact Or.inr (Nat.le_trans HA.out.1.turn.size q)
        · rcases q.1 with q | q
          · exact (HA.out.1.ft i q).2.2.1 e
          · have := (HA.out.1.own.lt i e).2; omega
      exact bodyPost_ret (res74 rfl _ _ (w.heap.size + 1) z32_len (rng_row hr) rfl) rfl ⟨b, er, rfl, hob, fin⟩
    · refine r_one_acc (by kernel_rfl) _ rfl (.agg #[.int .i64 k, .int .i64 0, .bool (er == 0)]) [.int .i64 k, .int .i64 0, .bool (er == 0)] rfl rfl rfl ?_
      refine hK.out _ _ ⟨rng_keep hS.1 ((Below.refl _ _).alloc (Nat.le_refl _) _), (heap_alloc_old _ _ (Array.getElem?_eq_some_iff.1 hS.2.1).1).trans hS.2.1, (heap_alloc_old _ _ (Array.getElem?_eq_some_iff.1 hS.2.2.1).1).trans hS.2.2.1, (heap_alloc_old _ _ (Array.getElem?_eq_some_iff.1 hS.2.2.2).1).trans hS.2.2.2⟩ (fun hS => ?_)
      clear hK K
      try simp only [Act.put, List.setIfInBounds_toArray, List.set_cons_zero, List.set_cons_succ]
      refine wpAnyH_ready (rs := [4]) (by kernel_rfl) (by simp) ?_
      refine AllReadyH.cons (by simp only [List.getElem?_toArray, List.getElem?_cons_zero, List.getElem?_cons_succ]; rfl) (fun K hK => ?_) AllReadyH.nil
      refine r_yield (y_l_acc (by kernel_rfl) _ rfl _ _ rfl (.slice aa s6.ac.length ac) (fun u hs => by rw [hs]; exact HC.out.1 _)) ?_
      refine hK.out _ _ hS (fun hS => ?_)
      clear hK K
      try simp only [Act.put, List.setIfInBounds_toArray, List.set_cons_zero, List.set_cons_succ]
      refine wpAnyH_ready (rs := [14]) (by kernel_rfl) (by simp) ?_
      refine AllReadyH.cons (by simp only [List.getElem?_toArray, List.getElem?_cons_zero, List.getElem?_cons_succ]; rfl) (fun K hK => ?_) AllReadyH.nil
      have bA : Below w6.heap.size w6 (w6.drew.alloc (.cells [.int .i64 k, .int .i64 0, .bool (er == 0)].toArray 120)) := ((Below.refl w6.heap.size w6).drew).alloc (Nat.le_refl _) _
      have hDr := HD6.out.2.1.keep bA
      have hDb := HD6.out.1.keep bA
      refine r_app_acc (by kernel_rfl) _ _ rfl (.slice aa s6.ac.length ac) s6.ac.length (acc3 s6.ac) rfl (by rw [← HS6.out.2]; exact hDr.ac) w6.drew.heap.size [.int .i64 k, .int .i64 0, .bool (er == 0)] rfl rfl (rng_new _ _ _) (fun u hu => by
        simp only [List.mem_cons, List.not_mem_nil, or_false] at hu
        rcases hu with rfl | rfl | rfl <;> rfl) (by have := hDr.bd.2.1; have := HD6.out.2.2.1; have := HA.out.1.N; have := HD.out.2.2.2.2.1; omega) ?_
      intro v' w7 own7 gr7 at7
      have gr7' : (w6.drew.alloc (.cells [.int .i64 k, .int .i64 0, .bool (er == 0)].toArray 120)).grownBy w7 X6.ac.ownBlock := by rw [HS6.out.2]; exact gr7
      have at7' : v'.ownBlock = X6.ac.ownBlock ∨ v'.ownBlock = some (w6.drew.alloc (.cells [.int .i64 k, .int .i64 0, .bool (er == 0)].toArray 120)).heap.size := by rw [HS6.out.2]; exact at7
      have t7 : Turn (fun i => X6.ac.ownBlock = some i) (w6.drew.alloc (.cells [.int .i64 k, .int .i64 0, .bool (er == 0)].toArray 120)) w7 := Turn.of_grown gr7' (fun _ e => e)
      have hS7 := (⟨rng_same hS.1 (t7.block _ (rng_lt hS.1 HAB.out.2.2) (fun e => HNA.out _ e (Or.inl rfl))), t7.at_new hS.2.1 (fun e => HNA.out _ e (Or.inr (Or.inr (Or.inl rfl)))), t7.at_new hS.2.2.1 (fun e => HNA.out _ e (Or.inr (Or.inr (Or.inr rfl)))), t7.at_new hS.2.2.2 (fun e => HNA.out _ e (Or.inr (Or.inl rfl)))⟩ : w7.rangeAt w.heap.size 0 L ∧ w7.heap[cb]? = some (.cells #[.int .i64 0, .int .i64 0, .int .i64 0] 152 (0, 0)) ∧ w7.heap[nb]? = some (.cells (anc b nilS 0 z32 er).toArray 161 (0, 0)) ∧ w7.heap[w.heap.size + 1]? = some (.cells (anc nilS nilS 0 z32 0).toArray 161 (0, 0)))
      have hDb7 : Db w7 g (X6.dvf s6) := hDb.turn t7 (fun e => own_ne_cells hDr.ac hDb.blk (by decide) e)
      have hDr7 := hDr.noted (x := ⟨k, 0, er == 0⟩) (fun i hi => Or.inr (Nat.le_trans HD6.out.2.2.2.2 (Nat.le_trans bA.size hi))) own7 gr7' at7'
      have hT7 : Turn F w w7 := ((HB6.out.2.2.2.2.2.trans (Turn.of_below (F := F) bA) (fun _ q => Or.inl q))).trans t7 (fun i e => by
        rcases hDr.acf i e with q | q
        · exact (HA.out.1.ft i q).2.1
        · exact Or.inr (Nat.le_trans HA.out.1.turn.size q))
      have hO7 : w7.ownsRow w.heap.size 5 1 b xs.length (bv xs) := own_off (own_off HB6.out.2.2.2.2.1 (G := fun _ => False) (Turn.of_below bA) (Off.none _ _)) t7 (Off.row hDr.ac (by decide))
      obtain ⟨va, vc, ev⟩ := own_slice own7
      subst ev
      clear own7 gr7 at7 gr7' at7'
      refine hK.out _ _ hS7 (fun hS => ?_)
      clear hK K
      try simp only [Act.put, List.setIfInBounds_toArray, List.set_cons_zero, List.set_cons_succ]
      refine wpAnyH_take (i := 15) (v := (.pointer (some ⟨g, 0, none⟩))) (by simp only [List.getElem?_toArray, List.getElem?_cons_zero, List.getElem?_cons_succ]; rfl) (by kernel_rfl) (by kernel_rfl) (by kernel_rfl) (by exact fun _ _ _ h => h) (y_nil (by kernel_rfl) _ rfl _ rfl) hS ?_
      try simp only [Act.put, List.setIfInBounds_toArray, List.set_cons_zero, List.set_cons_succ]
      refine wpAnyH_take (i := 16) (v := (.pointer (some ⟨g, 0 + 39, none⟩))) (by simp only [List.getElem?_toArray, List.getElem?_cons_zero, List.getElem?_cons_succ]; rfl) (by kernel_rfl) (by kernel_rfl) (by kernel_rfl) (by exact fun _ _ _ h => h) (y_f_Dev7 (by kernel_rfl) _ rfl _ _ rfl) hS ?_
      try simp only [Act.put, List.setIfInBounds_toArray, List.set_cons_zero, List.set_cons_succ]
      refine wpAnyH_ready (rs := [17]) (by kernel_rfl) (by simp) ?_
      refine AllReadyH.cons (by simp only [List.getElem?_toArray, List.getElem?_cons_zero, List.getElem?_cons_succ]; rfl) (fun K hK => ?_) AllReadyH.nil
      refine r_s_acc (by kernel_rfl) _ _ rfl g (0 + 39) rfl (.slice va (s6.ac.length + 1) vc) _ rfl ⟨_, _, _, rfl⟩ hDb7.at_.2.2.2.2.2.2.2.1 (hDb7.frz 39) ?_
      have t8 : Turn (fun i => i = g) w7 (w7.setCell ⟨g, 0 + 39, none⟩ (.slice va (s6.ac.length + 1) vc)) := Turn.setCell _ _ _ rfl
      have hgo : g ≠ nb := fun e => HA.out.2.1 (e ▸ HA.out.1.fg)
      have hS8 := (⟨rng_same hS.1 (t8.block _ (rng_lt hS.1 HAB.out.2.2) (by omega)), t8.at_new hS.2.1 (by omega), t8.at_new hS.2.2.1 (fun e => hgo e.symm), t8.at_new hS.2.2.2 (by omega)⟩ : (w7.setCell ⟨g, 0 + 39, none⟩ (.slice va (s6.ac.length + 1) vc)).rangeAt w.heap.size 0 L ∧ (w7.setCell ⟨g, 0 + 39, none⟩ (.slice va (s6.ac.length + 1) vc)).heap[cb]? = some (.cells #[.int .i64 0, .int .i64 0, .int .i64 0] 152 (0, 0)) ∧ (w7.setCell ⟨g, 0 + 39, none⟩ (.slice va (s6.ac.length + 1) vc)).heap[nb]? = some (.cells (anc b nilS 0 z32 er).toArray 161 (0, 0)) ∧ (w7.setCell ⟨g, 0 + 39, none⟩ (.slice va (s6.ac.length + 1) vc)).heap[w.heap.size + 1]? = some (.cells (anc nilS nilS 0 z32 0).toArray 161 (0, 0)))
      have HV8 : Hid (Db (w7.setCell ⟨g, 0 + 39, none⟩ (.slice va (s6.ac.length + 1) vc)) g ({ X6 with ac := (.slice va (s6.ac.length + 1) vc), N := X6.N + 1 }.dvf (notd s6 k er)) ∧ Dr (w7.setCell ⟨g, 0 + 39, none⟩ (.slice va (s6.ac.length + 1) vc)) (fun i => F1 i ∨ wc.heap.size ≤ i) (notd s6 k er) { X6 with ac := (.slice va (s6.ac.length + 1) vc), N := X6.N + 1 } ∧ Turn F w (w7.setCell ⟨g, 0 + 39, none⟩ (.slice va (s6.ac.length + 1) vc)) ∧ (w7.setCell ⟨g, 0 + 39, none⟩ (.slice va (s6.ac.length + 1) vc)).ownsRow w.heap.size 5 1 b xs.length (bv xs) ∧ (w7.setCell ⟨g, 0 + 39, none⟩ (.slice va (s6.ac.length + 1) vc)).rangeAt w.heap.size 0 L ∧ (w7.setCell ⟨g, 0 + 39, none⟩ (.slice va (s6.ac.length + 1) vc)).heap[cb]? = some (.cells #[.int .i64 0, .int .i64 0, .int .i64 0] 152 (0, 0)) ∧ (w7.setCell ⟨g, 0 + 39, none⟩ (.slice va (s6.ac.length + 1) vc)).heap[nb]? = some (.cells (anc b nilS 0 z32 er).toArray 161 (0, 0)) ∧ (w7.setCell ⟨g, 0 + 39, none⟩ (.slice va (s6.ac.length + 1) vc)).heap[w.heap.size + 1]? = some (.cells (anc nilS nilS 0 z32 0).toArray 161 (0, 0))) :=
        ⟨hDb7.setAc _, hDr7.self hDb7 t8, hT7.trans t8 (fun i e => Or.inl (by rw [e]; exact HD.out.2.2.2.1)), own_off hO7 t8 (Off.db hDb7 (by decide)), hS8⟩
      refine hK.out _ _ hS8 (fun _ => ?_)
      clear hS hS8 t8 hDb7 hDr7 hT7 hO7 hS7 t7 hDb hDr bA hgo
      clear hK K
      try simp only [Act.put]
      refine wpAnyH_done (by kernel_rfl) ?_ _
      clear HC HBD
      obtain ⟨X8, eX8⟩ : ∃ Y : Dx, Y = { X6 with ac := (.slice va (s6.ac.length + 1) vc), N := X6.N + 1 } := ⟨_, rfl⟩
      rw [← eX8] at HV8
      have HX8 : Hid (X8.N = X6.N + 1 ∧ X8.lg = X6.lg) := by rw [eX8]; exact ⟨rfl, rfl⟩
      clear eX8
      revert HV8
      generalize w7.setCell ⟨g, 0 + 39, none⟩ (.slice va (s6.ac.length + 1) vc) = w8
      intro HV8
      have o1 : (anc b nilS 0 z32 er).toArray.all (·.oneCell') = true := anc_one hob rfl
      have HL : Hid ((Tryz.prog.info? 161).map (·.size) = some (anc b nilS 0 z32 er).length ∧ (anc b nilS 0 z32 er).toArray.size = (anc nilS nilS 0 z32 0).toArray.size) := ⟨i74' z32_len, by rw [List.size_toArray, List.size_toArray, anc_len z32_len, anc_len z32_len]⟩
      have HN8 : Hid (w8.rangeAt nb 0 (anc b nilS 0 z32 er)) := rng_row HV8.out.2.2.2.2.2.2.1
      obtain ⟨A, eA⟩ : ∃ A, A = anc b nilS 0 z32 er := ⟨_, rfl⟩
      rw [← eA] at HN8 HL o1
      have HEA : Hid (A = anc b nilS 0 z32 er) := eA
      clear eA
      go_wp2_with (first
        | refine wpList_load_mid_g (by kernel_rfl) 161 _ (by rfl) nb 0 (by rfl) A _ HN8.out Tryz.underlying161 rfl HL.out.1 ?_
        | (refine wpList_g (by kernel_rfl) ?_; refine wp_store_row 161 _ _ (by rfl) (w.heap.size + 1) A.toArray (by rfl) (by rfl) 161 (anc nilS nilS 0 z32 0).toArray HV8.out.2.2.2.2.2.2.2 (by rw [List.size_toArray]; exact HL.out.1) (by first | exact HL.out.2 | exact HL.out.2.symm) o1 ?_))
      
      have eA := HEA.out
      subst eA
      have hr := setRow_heap' (cs' := (anc b nilS 0 z32 er).toArray) HV8.out.2.2.2.2.2.2.2
      have t9 : Turn (fun i => i = w.heap.size + 1) w8 (w8.setRow (w.heap.size + 1) (anc b nilS 0 z32 er).toArray) := Turn.setRow _ _ _ rfl
      have fin : AccP F g s X Sp k w (w8.setRow (w.heap.size + 1) (anc b nilS 0 z32 er).toArray) b er := by
        have hDr9 := (HV8.out.2.1.other HV8.out.2.2.2.2.2.2.2 (by decide) (by decide) (by decide) (by decide) (by decide) t9).clip
        have hDb9 := HV8.out.1.turn t9 (by omega)
        rw [HS6.out.1] at hDr9 hDb9
        refine ⟨_, _, s1, X1, xs, ?_, hDr9, ⟨Or.inl HA.out.1.fg, hDb9.lt⟩, ?_, ?_, HV8.out.2.2.1.trans t9 (fun i q => Or.inr (by omega)), fun i q => ⟨q.2, ?_, fun e => ?_⟩, own_off HV8.out.2.2.2.1 t9 (Off.blk HV8.out.2.2.2.2.2.2.2 (by decide)), HSP.out⟩
        · exact hDb9
        · have := HX8.out.1; have := HD6.out.2.2.1; have := HA.out.1.N; show X8.N ≤ X.N + 6; omega
        · show X8.lg = X1.lg
          rw [HX8.out.2, HD6.out.2.2.2.1]
        · rcases q.1 with q | q
          · exact (HA.out.1.ft i q).2.1
          · exact Or.inr (Nat.le_trans HA.out.1.turn.size q)
        · rcases q.1 with q | q
          · exact (HA.out.1.ft i q).2.2.1 e
          · have := (HA.out.1.own.lt i e).2; omega
      exact bodyPost_ret (res74 rfl _ _ (w.heap.size + 1) z32_len (rng_row hr) rfl) rfl ⟨b, er, rfl, hob, fin⟩
end Go.Proofs.YtpmdjopojcgpeaaGreatDoor
