import Derived.Test.YtpmdjopojcgpeaaGreatDoorH10q
import Derived.Test.YtpmdjopojcgpeaaGreatDoorH11q
import Derived.Test.YtpmdjopojcgpeaaGreatDoorQGenq
import Derived.Test.YtpmdjopojcgpeaaGreatDoorNzq
/-
  A new device, a new book, a new store.
-/
namespace Go.Proofs.YtpmdjopojcgpeaaGreatDoor
open Go.RowKit Go.Maps Go.ChangeMaps

theorem kh_abc : Dg.gd (Dg.kh 256 [97, 98, 99]) 0 = 186 := by
  have e : Dg.digest 3 (Dg.gd [97, 98, 99]) = ⟨0xba7816bf, 0x8f01cfea, 0x414140de, 0x5dae2223, 0xb00361a3, 0x96177a9c, 0xb410ff61, 0xf20015ad⟩ := (Dg.folds_ego _ _).trans Dg.known1
  have h : Dg.gd (Dg.sum [97, 98, 99]) 0 = 186 := by
    unfold Dg.sum
    rw [Dg.lst_gd (by decide)]
    show Dg.hb (Dg.digest 3 (Dg.gd [97, 98, 99])) 0 = 186
    rw [e]
    rfl
  unfold Dg.kh
  rw [Dg.lst_gd (by decide)]
  unfold Dg.cutf
  rw [h]
  decide
set_option maxRecDepth 100000 in
set_option maxHeartbeats 1600000 in
theorem newS_ok2 (w : World) (g bk : Nat) (c : Int) (h0 : 0 ≤ c) (h1 : c ≤ 256) :
    Calls Tryz.prog 10 #[.pointer (some ⟨g, 0, none⟩), .pointer (some ⟨bk, 0, none⟩), .int .i64 c] w fun e w' => ∃ sb, e = .returned (.tuple #[.pointer (some ⟨sb, 0, none⟩), .int .i64 0]) ∧ ∃ mb mq, Stb w' sb g bk c nilS mb mq ∧ w'.heap[mb]? = some (.map #[] 0) ∧ EmpM w' mq ∧ w.heap.size ≤ mb ∧ mb < mq ∧ mq < sb ∧ Below w.heap.size w w' := by
  have hmm := @run_makeMap Tryz.prog
  have n0 : ¬ c < 0 := by omega
  have n1 : ¬ 256 < c := by omega
  go_enter Tryz.func10, Tryz.ntmps10
  go_wp2_with (go_at_call 38; refine (newCache_any _ c).mono ?_; rintro _ w1 ⟨mb, rfl, hm, hl, hb⟩; have HM : Hid (w1.heap[mb]? = some (.map #[] 0) ∧ w.heap.size ≤ mb ∧ Below w.heap.size w w1) := ⟨hm, hl, hb⟩; clear hm hl hb)
  go_ret2
  have l1 := (Array.getElem?_eq_some_iff.1 HM.out.1).1
  have b1 : Below w1.heap.size w1 (w1.alloc (.map #[] 0)) := (Below.refl _ _).alloc (Nat.le_refl _) _
  have b2 : Below (w1.alloc (.map #[] 0)).heap.size (w1.alloc (.map #[] 0)) ((w1.alloc (.map #[] 0)).alloc (.cells #[.pointer (some ⟨g, 0, none⟩), .pointer (some ⟨bk, 0, none⟩), .int .i64 c, nilS, .map (some mb), .map (some w1.heap.size)] 103)) := (Below.refl _ _).alloc (Nat.le_refl _) _
  refine ⟨w1.heap.size + 1, rfl, mb, w1.heap.size, ⟨?_⟩, (b2.block _ (by simp; omega)).trans ((b1.block _ l1).trans HM.out.1), ⟨0, (b2.block _ (by simp)).trans (heap_alloc_new _ _)⟩, HM.out.2.1, l1, Nat.lt_succ_self _, ch (ch HM.out.2.2 b1) b2⟩
  have := heap_alloc_new (w1.alloc (.map #[] 0)) (.cells #[.pointer (some ⟨g, 0, none⟩), .pointer (some ⟨bk, 0, none⟩), .int .i64 c, nilS, .map (some mb), .map (some w1.heap.size)] 103)
  simpa using this
/-- a device and a book, both new -/
structure Db2 (w0 w : World) (g bk : Nat) (FD FB : Nat → Prop) : Prop where
  dv : Dev w FD g (dst0 4 100) 0 nilS
  bk : Bk w bk 256 0 FB
  gr : Dg.Ground w
  b : Below w0.heap.size w0 w
  big : 3 < w0.heap.size
  l1 : ∀ i, FD i → w0.heap.size ≤ i
  l2 : ∀ i, FB i → w0.heap.size ≤ i
  dj : ∀ i, FD i → ¬ FB i
theorem Db2.keep {w0 w w' : World} {g bk : Nat} {FD FB : Nat → Prop} (h : Db2 w0 w g bk FD FB) (k : Below w.heap.size w w') : Db2 w0 w' g bk FD FB :=
  ⟨h.dv.keep k, h.bk.keep k, h.gr.below k, ch h.b k, h.big, h.l1, h.l2, h.dj⟩
theorem Db2.sy {w0 w w' : World} {g bk : Nat} {FD FB : Nat → Prop} (h : Db2 w0 w g bk FD FB) {sb mb mq : Nat} {c : Int} (hs : Stb w' sb g bk c nilS mb mq) (hm : w'.heap[mb]? = some (.map #[] 0)) (hq : EmpM w' mq) (l1 : w.heap.size ≤ mb) (l2 : mb < mq) (l3 : mq < sb) (k : Below w.heap.size w w') :
    Sy w' sb g bk 256 c mb mq 0 0 0 [] (fun _ => none) 0 (dst0 4 100) nilS (fun i => i = sb ∨ i = mb ∨ i = mq) FD FB nilS (.map []) (fun _ => nilS) (fun _ => False) ∧ (∀ i, All (fun i => i = sb ∨ i = mb ∨ i = mq) FD FB i → w0.heap.size ≤ i) := by
  have hsl := (Array.getElem?_eq_some_iff.1 hs.blk).1
  have hl0 := h.b.size
  have hbg := h.big
  have hld : ∀ i, FD i → i < w.heap.size := by
    obtain ⟨_, _, _, _, q, _⟩ := h.dv
    exact q
  have hge : ∀ i, i = sb ∨ i = mb ∨ i = mq → w.heap.size ≤ i ∧ i < w'.heap.size := fun i q => by
    rcases q with rfl | rfl | rfl <;> omega
  refine ⟨⟨⟨hs, ⟨Mh.new hm, fun k _ => rfl, fun k _ => Dat.nil _ _, rfl⟩, World.ownsRow_nil _ _ _ _, hq, by omega, ⟨Or.inl rfl, Or.inr (Or.inl rfl), Or.inr (Or.inr rfl)⟩, fun b q => by simp [Value.ownBlock] at q, fun i q => q.elim, (fun k hk => by cases hk), Nat.le_refl _⟩, h.dv.keep k, h.bk.keep k, h.gr.below k, fun i q z => ?_, fun i q z => ?_, h.dj, fun i q => ?_, fun i q => ?_⟩, fun i q => ?_⟩
  · have := hge i q; have := hld i z; omega
  · have := hge i q; have := (h.bk.lim i z).2; omega
  · have := hge i q; omega
  · have := hld i q; have := h.l1 i q; have := k.size; omega
  · rcases q with q | q | q
    · have := hge i q; omega
    · exact h.l1 i q
    · exact h.l2 i q
/-- a book is made -/
theorem db2_new {w0 w1 w2 w3 : World} {g bk : Nat} {FD FB : Nat → Prop} {st : Dg.Bst} (hG : Dg.Ground w0) (hd : Dev w1 FD g (dst0 4 100) 0 nilS) (hf : ∀ i, FD i → w0.heap.size ≤ i) (b1 : Below w0.heap.size w0 w1) (b2 : Below w1.heap.size w1 w2) (b3 : Below w2.heap.size w2 w3) (hb : Dg.Book w3 w2.heap.size bk st FB) (h1 : st.bits = 256) (h2 : st.LH = []) (hfb : ∀ i, FB i → w2.heap.size ≤ i) : Db2 w0 w3 g bk FD FB := by
  have s1 := b1.size
  have s2 := b2.size
  have hbg := hG.big
  have hld : ∀ i, FD i → i < w1.heap.size := by
    obtain ⟨_, _, _, _, q, _⟩ := hd
    exact q
  exact ⟨(hd.keep b2).keep b3, ⟨w2.heap.size, st, hb, by omega, h1, by rw [h2]; exact Nat.le_refl _⟩, ((hG.below b1).below b2).below b3, ch (ch b1 b2) b3, hbg, hf, fun i q => by have := hfb i q; omega, fun i q z => by have := hfb i z; have := hld i q; omega⟩
theorem sec_nil (w : World) : Calls Tryz.prog 9 #[nilS] w fun e w' => ∃ a b c s, e = .returned (.slice a 32 c) ∧ Dg.Vw w' a b 0 s ∧ s.length = 32 ∧ Below w.heap.size w w' := by
  refine (Dg.secret_any w none 0 0 0 0 (fun _ => 0) ⟨fun k => by omega, fun i hi => by omega, fun i hi => by omega, by omega⟩ (fun _ => by decide)).mono ?_
  rintro e w' ⟨a', g', c', rfl, h1, h2, h3, h4, h5, h6⟩
  exact ⟨a', g', c', _, rfl, h4, Dg.lst_len _ _, h6⟩
end Go.Proofs.YtpmdjopojcgpeaaGreatDoor

/-
  A store that has one blob: Node, Fresh, Accesses.
-/
namespace Go.Proofs.YtpmdjopojcgpeaaGreatDoor
open Go.RowKit Go.Maps Go.ChangeMaps

/-- A STORE WITH ONE BLOB, in its cache and on its device; n accesses; the blocks of P are not theirs. -/
def One (w0 w : World) (sb g bk n : Nat) (key x : List Nat) (P : Nat → Prop) : Prop :=
  ∃ mb mq N ND NB ks bl cnt sd lg F FD FB ord D V E, Sy w sb g bk 256 2 mb mq N ND NB ks bl cnt sd lg F FD FB ord D V E ∧ (∀ i, All F FD FB i → w0.heap.size ≤ i ∧ ¬ P i) ∧ Below w0.heap.size w0 w ∧ bl key = some x ∧ sd.bl key = some x ∧ sd.ac.length = n ∧ ND ≤ 12 * n ∧ NB ≤ n
theorem all_lt {w : World} {sb g bk bits : Nat} {most : Int} {mb mq N ND NB : Nat} {ks : List (List Nat)} {bl : List Nat → Option (List Nat)} {cnt : Nat} {sd : Dst} {lg : Value} {F FD FB : Nat → Prop} {ord : Value} {D : DataW Value} {V : List Nat → Value} {E : Nat → Prop} (h : Sy w sb g bk bits most mb mq N ND NB ks bl cnt sd lg F FD FB ord D V E) : ∀ i, All F FD FB i → i < w.heap.size := fun i q => by
  rcases q with q | q | q
  · exact (h.lf i q).2
  · exact (h.ld i q).2
  · exact (h.bk.lim i q).2
theorem One.keep {w0 w w' : World} {sb g bk n : Nat} {key x : List Nat} {P P' : Nat → Prop} (h : One w0 w sb g bk n key x P) (k : Below w.heap.size w w') (hP : ∀ i, P' i → P i ∨ w.heap.size ≤ i) : One w0 w' sb g bk n key x P' := by
  obtain ⟨mb, mq, N, ND, NB, ks, bl, cnt, sd, lg, F, FD, FB, ord, D, V, E, h1, h2, h3, h4⟩ := h
  refine ⟨mb, mq, N, ND, NB, ks, bl, cnt, sd, lg, F, FD, FB, ord, D, V, E, h1.keep k, fun i q => ⟨(h2 i q).1, fun z => ?_⟩, ch h3 k, h4⟩
  rcases hP i z with z | z
  · exact (h2 i q).2 z
  · have := all_lt h1 i q; omega
theorem one_put {w0 w : World} {sb g bk mb mq : Nat} {FD FB : Nat → Prop} {x : List Nat} (hx : 1 ≤ x.length ∧ x.length ≤ 1024) {sa : Option Addr} {sc : Nat} (b : Below w0.heap.size w0 w)
    (h : Sy w sb g bk 256 2 mb mq 0 0 0 [] (fun _ => none) 0 (dst0 4 100) nilS (fun i => i = sb ∨ i = mb ∨ i = mq) FD FB nilS (.map []) (fun _ => nilS) (fun _ => False)) (hge : ∀ i, All (fun i => i = sb ∨ i = mb ∨ i = mq) FD FB i → w0.heap.size ≤ i) (hv : Vo (All (fun i => i = sb ∨ i = mb ∨ i = mq) FD FB) w (.slice sa x.length sc) x) :
    Calls Tryz.prog 14 #[.pointer (some ⟨sb, 0, none⟩), .slice sa x.length sc] w fun e w' => e = .returned (.tuple #[.agg (bv (Dg.kh 256 x)).toArray, .int .i64 0]) ∧ One w0 w' sb g bk 2 (Dg.kh 256 x) x (fun _ => False) := by
  refine (put_new h (by omega) (by omega) (by omega) hx hv rfl rfl (by rfl) (by decide)).mono ?_
  rintro e w' ⟨rfl, ht, F', FD', FB', ord', D', V', E', hs, hf⟩
  have hs0 := b.size
  refine ⟨rfl, mb, mq, _, _, _, _, _, _, _, _, F', FD', FB', ord', D', V', E', hs, fun i q => ⟨?_, fun z => z⟩, b.trans (ht.below (fun i q => hge i q) hs0), if_pos rfl, if_pos rfl, rfl, by omega, by omega⟩
  rcases hf i q with q | q
  · exact hge i q
  · omega
theorem one_node {w0 w : World} {sb g bk n : Nat} {key x : List Nat} {P : Nat → Prop} (h : One w0 w sb g bk n key x P) (hk : IsH key) :
    Calls Tryz.prog 12 #[.pointer (some ⟨sb, 0, none⟩), .agg (bv key).toArray] w fun e w' => ∃ u, e = .returned (.tuple #[u, .int .i64 0]) ∧ w'.ownsRow w.heap.size 5 1 u x.length (bv x) ∧ Below w.heap.size w w' := by
  obtain ⟨mb, mq, N, ND, NB, ks, bl, cnt, sd, lg, F, FD, FB, ord, D, V, E, h1, h2, h3, h4, h5, h6, h7, h8⟩ := h
  exact node_cached h1 hk h4
theorem one_accs {w0 w : World} {sb g bk n : Nat} {key x : List Nat} {P : Nat → Prop} (h : One w0 w sb g bk n key x P) (hn : n ≤ 50) :
    Calls Tryz.prog 18 #[.pointer (some ⟨g, 0, none⟩)] w fun e w' => ∃ a c, e = .returned (.slice a n c) ∧ Below w.heap.size w w' := by
  obtain ⟨mb, mq, N, ND, NB, ks, bl, cnt, sd, lg, F, FD, FB, ord, D, V, E, h1, h2, h3, h4, h5, h6, h7, h8⟩ := h
  refine (dev_accs h1.dv (by omega)).mono ?_
  rintro e w' ⟨u, rfl, hu, hb⟩
  obtain ⟨a, c, e⟩ := own_slice hu
  exact ⟨a, c, by rw [e, h6], hb⟩
theorem one_fresh {w0 w : World} {sb g bk n : Nat} {key x : List Nat} {P : Nat → Prop} (h : One w0 w sb g bk n key x P) (hn : n ≤ 50) (hk : IsH key) (hx : (1 ≤ x.length ∧ x.length ≤ 1024) ∧ ∀ y ∈ x, y < 256) (hkey : key = Dg.kh 256 x) :
    Calls Tryz.prog 13 #[.pointer (some ⟨sb, 0, none⟩), .agg (bv key).toArray] w fun e w' => ∃ u, e = .returned (.tuple #[u, .int .i64 0]) ∧ w'.ownsRow w.heap.size 5 1 u x.length (bv x) ∧ Turn (fun i => ¬ P i) w w' ∧ One w0 w' sb g bk (n + 1) key x (fun _ => False) := by
  obtain ⟨mb, mq, N, ND, NB, ks, bl, cnt, sd, lg, F, FD, FB, ord, D, V, E, h1, h2, h3, h4, h5, h6, h7, h8⟩ := h
  have hr : refu sd 1 key 0 = 0 := by
    show (if (sd.bl key).isSome = true then (0 : Int) else 81) = 0
    rw [h5]
    rfl
  refine (fresh_right h1 (by omega) (by omega) hk h5 hr hx hkey).mono ?_
  rintro e w' ⟨u, rfl, ho, ht, FD', FB', hs, hf⟩
  have hs0 := h3.size
  refine ⟨u, rfl, ho, ht.mono (fun i q => Or.inl (h2 i q).2), mb, mq, _, _, _, _, _, _, _, _, F, FD', FB', ord, D, V, E, hs, fun i q => ⟨?_, fun z => z⟩, h3.trans (ht.below (fun i q => (h2 i q).1) hs0), h4, h5, ?_, ?_, ?_⟩
  · rcases (hf i q).1 with q | q
    · exact (h2 i q).1
    · omega
  · show (sd.ac ++ [_]).length = n + 1
    rw [List.length_append, h6]
    rfl
  · omega
  · omega
end Go.Proofs.YtpmdjopojcgpeaaGreatDoor

/-
  cairnlaw10.fixed.
-/
namespace Go.Proofs.YtpmdjopojcgpeaaGreatDoor
open Go.RowKit Go.Maps Go.ChangeMaps

theorem digest_new {w0 w1 w2 : World} {g : Nat} {FD : Nat → Prop} (hG : Dg.Ground w0) (hd : Dev w1 FD g (dst0 4 100) 0 nilS) (hf : ∀ i, FD i → w0.heap.size ≤ i) (b1 : Below w0.heap.size w0 w1) (b2 : Below w1.heap.size w1 w2) {a : Option Addr} {b c : Nat} {s : List Nat} (hv : Dg.Vw w2 a b 0 s) (hl : s.length = 32) :
    Calls Tryz.prog 8 #[.int .i64 256, .int .i64 256, .slice a 32 c] w2 fun e w' => ∃ bk FB, e = .returned (.tuple #[.pointer (some ⟨bk, 0, none⟩), .int .i64 0]) ∧ Db2 w0 w' g bk FD FB := by
  refine (Dg.new_ok w2 256 256 a b 0 c s hv (by omega) (by omega) hl w2.heap.size (Nat.le_refl _)).mono ?_
  rintro e w' ⟨bk, FB, rfl, b3, hb, hfb⟩
  exact ⟨bk, FB, rfl, db2_new hG hd hf b1 b2 b3 hb rfl rfl hfb⟩
theorem hstore_new {w0 w : World} {g bk : Nat} {FD FB : Nat → Prop} (h : Db2 w0 w g bk FD FB) (c : Int) (h0 : 0 ≤ c) (h1 : c ≤ 256) :
    Calls Tryz.prog 10 #[.pointer (some ⟨g, 0, none⟩), .pointer (some ⟨bk, 0, none⟩), .int .i64 c] w fun e w' => ∃ sb, e = .returned (.tuple #[.pointer (some ⟨sb, 0, none⟩), .int .i64 0]) ∧ ∃ mb mq, Sy w' sb g bk 256 c mb mq 0 0 0 [] (fun _ => none) 0 (dst0 4 100) nilS (fun i => i = sb ∨ i = mb ∨ i = mq) FD FB nilS (.map []) (fun _ => nilS) (fun _ => False) ∧ (∀ i, All (fun i => i = sb ∨ i = mb ∨ i = mq) FD FB i → w0.heap.size ≤ i) ∧ Below w0.heap.size w0 w' := by
  refine (newS_ok2 w g bk c h0 h1).mono ?_
  rintro e w' ⟨sb, rfl, mb, mq, q1, q2, q3, q4, q5, q6, q7⟩
  have := h.sy q1 q2 q3 q4 q5 q6 q7
  exact ⟨sb, rfl, mb, mq, this.1, this.2, ch h.b q7⟩
set_option maxRecDepth 100000 in
set_option maxHeartbeats 12800000 in
theorem hfixed_any (w : World) (hG : Dg.Ground w) :
    Calls Tryz.prog 19 #[] w fun e w' => e = .returned (.bool true) ∧ Below w.heap.size w w' := by
  have HN : Hid (NewD 4 100) := newD 4 100 rfl
  have HG : Hid (Dg.Ground w) := hG
  clear hG
  go_enter Tryz.func19, Tryz.ntmps19
  go_wp2_with (go_at_call 7; refine (HN.out _).mono ?_; rintro _ w1 ⟨g, rfl, FD, hD1, hb1, hf1⟩; have H1 : Hid (Dev w1 FD g (dst0 4 100) 0 nilS ∧ Below w.heap.size w w1 ∧ ∀ i, FD i → w.heap.size ≤ i) := ⟨hD1, hb1, hf1⟩; clear hD1 hb1 hf1 HN; change Hid _)
  unfold Hid
  go_wp2_with (go_at_call 9; refine (sec_nil _).mono ?_; rintro _ w2 ⟨sa, sk, sc, ss, rfl, hv2, hl2, hb2⟩; have H2 : Hid (Dg.Vw w2 sa sk 0 ss ∧ ss.length = 32 ∧ Below w1.heap.size w1 w2) := ⟨hv2, hl2, hb2⟩; clear hv2 hl2 hb2; change Hid _)
  unfold Hid
  go_wp2_with (go_at_call 8; refine (digest_new HG.out H1.out.1 H1.out.2.2 H1.out.2.1 H2.out.2.2 H2.out.1 H2.out.2.1).mono ?_; rintro _ w3 ⟨bk, FB, rfl, h3⟩; have H3 : Hid (Db2 w w3 g bk FD FB) := h3; clear h3 H1 H2; change Hid _)
  unfold Hid
  go_wp2_with (go_at_call 10; refine (hstore_new H3.out 2 (by decide) (by decide)).mono ?_; rintro _ w4 ⟨sb, rfl, mb, mq, h4⟩; have H4 : Hid (Sy w4 sb g bk 256 2 mb mq 0 0 0 [] (fun _ => none) 0 (dst0 4 100) nilS (fun i => i = sb ∨ i = mb ∨ i = mq) FD FB nilS (.map []) (fun _ => nilS) (fun _ => False) ∧ (∀ i, All (fun i => i = sb ∨ i = mb ∨ i = mq) FD FB i → w.heap.size ≤ i) ∧ Below w.heap.size w w4) := h4; clear h4 H3; change Hid _)
  unfold Hid
  have cvA : ∀ W : World, (convert 29 29 (.slice (some ⟨W.heap.size, 0, none⟩) 3 3)).run Tryz.prog (W.alloc (.cells #[.int .u8 97, .int .u8 98, .int .u8 99] 5)) = .ok (.slice (some ⟨W.heap.size, 0, none⟩) 3 3) (W.alloc (.cells #[.int .u8 97, .int .u8 98, .int .u8 99] 5 (3, 4))) := fun W => Lib.run_convert_bytes_const (P := Tryz.prog) W 29 5 #[.int .u8 97, .int .u8 98, .int .u8 99] 3 3 Tryz.underlying29 Tryz.underlying5
  obtain ⟨key, ekey⟩ : ∃ k, k = Dg.kh 256 [97, 98, 99] := ⟨_, rfl⟩
  have HK : Hid (IsH key ∧ key = Dg.kh 256 [97, 98, 99] ∧ Dg.gd key 0 = 186) := by rw [ekey]; exact ⟨isH_kh _ _, rfl, kh_abc⟩
  have HP : Hid (Calls Tryz.prog 14 #[.pointer (some ⟨sb, 0, none⟩), .slice (some ⟨w4.heap.size, 0, none⟩) 3 3] (w4.alloc (.cells #[.int .u8 97, .int .u8 98, .int .u8 99] 5 (3, 4))) fun e w' => e = .returned (.tuple #[.agg (bv key).toArray, .int .i64 0]) ∧ One w w' sb g bk 2 key [97, 98, 99] (fun _ => False)) := by
    have bA : Below w4.heap.size w4 (w4.alloc (.cells #[.int .u8 97, .int .u8 98, .int .u8 99] 5 (3, 4))) := (Below.refl _ _).alloc (Nat.le_refl _) _
    obtain ⟨a, b, off, c, e, q1, q2, q3, q4⟩ := vb_rng (s := [97, 98, 99]) (rng_newf w4 (bv [97, 98, 99]) 5 (3, 4)) (by decide) (by decide)
    rw [ekey]
    refine one_put (x := [97, 98, 99]) (by decide) (ch H4.out.2.2 bA) (H4.out.1.keep bA) H4.out.2.1 ⟨a, b, off, c, e, q1, q2, q3, q4, fun h0 => ?_⟩
    have ha := q1.at_ h0
    injection e with e1 e2 e3
    rw [ha] at e1
    injection e1 with e1
    injection e1 with e1 e4 e5
    subst e1
    exact ⟨fun q => by have := all_lt H4.out.1 _ q; omega, by simp⟩
  clear ekey
  have hz := zvH
  have HI : Hid ((Tryz.prog.info? 38).map (·.size) = some (bv key).length ∧ (bv key).length = (bv z32).length ∧ (bv key).toArray.all (·.oneCell') = true) := ⟨iHl HK.out.1.1, by rw [bv_len, bv_len, HK.out.1.1, z32_len], bv_one _⟩
  obtain ⟨Z, eZ⟩ : ∃ Z, Z = bv z32 := ⟨_, rfl⟩
  rw [← eZ] at hz HI
  clear eZ
  go_wp2_with (first
    | (go_at_call 14; refine HP.out.mono ?_; rintro _ w5 ⟨rfl, h5⟩; have H5 : Hid (One w w5 sb g bk 2 key [97, 98, 99] (fun _ => False)) := h5; clear h5 HP H4)
    | (refine wpList_stN (by kernel_rfl) 38 _ _ (by rfl) (bv key) Z HI.out.1 HI.out.2.1 HI.out.2.2 (by rfl) (by rfl) ?_)
    | (go_at_call 18; change Hid (Calls _ _ _ _ _)))
  unfold Hid
  have H6 : Hid (One w (w5.alloc (.cells (bv key).toArray 38)) sb g bk 2 key [97, 98, 99] (fun i => i = w5.heap.size) ∧ (w5.alloc (.cells (bv key).toArray 38)).heap[w5.heap.size]? = some (.cells (bv key).toArray 38 (0, 0))) :=
    ⟨H5.out.keep ((Below.refl _ _).alloc (Nat.le_refl _) _) (fun i q => Or.inr (by omega)), heap_alloc_new _ _⟩
  clear H5 hz cvA
  generalize w5.alloc (.cells (bv key).toArray 38) = w6 at H6 ⊢
  generalize w5.heap.size = kb at H6 ⊢
  refine (one_accs H6.out.1 (by decide)).mono ?_
  rintro _ w7 ⟨a7, c7, rfl, h7⟩
  have H7 : Hid (One w w7 sb g bk 2 key [97, 98, 99] (fun i => i = kb) ∧ w7.heap[kb]? = some (.cells (bv key).toArray 38 (0, 0))) := ⟨H6.out.1.keep h7 (fun i q => Or.inl q), (h7.block _ (Array.getElem?_eq_some_iff.1 H6.out.2).1).trans H6.out.2⟩
  clear h7 H6
  have HR7 : Hid (w7.rangeAt kb 0 (bv key)) := blk_rng H7.out.2
  go_wp2_with (first
    | refine wpList_load_mid_g (by kernel_rfl) 38 _ (by rfl) kb 0 (by rfl) (bv key) _ HR7.out Tryz.underlying38 rfl HI.out.1 ?_
    | (go_at_call 12; refine (one_node H7.out.1 HK.out.1).mono ?_; rintro _ w8 ⟨u8, rfl, ho8, hb8⟩; obtain ⟨a8, c8, e8⟩ := own_slice ho8; subst e8; have H8 : Hid (One w w8 sb g bk 2 key [97, 98, 99] (fun i => i = kb ∨ (Value.slice a8 [97, 98, 99].length c8).ownBlock = some i) ∧ w8.heap[kb]? = some (.cells (bv key).toArray 38 (0, 0)) ∧ w8.ownsRow 0 5 1 (.slice a8 [97, 98, 99].length c8) [97, 98, 99].length (bv [97, 98, 99])) := ⟨H7.out.1.keep hb8 (fun i q => q.imp id (fun z => (ho8.lt i z).1)), (hb8.block _ (Array.getElem?_eq_some_iff.1 H7.out.2).1).trans H7.out.2, own_base ho8⟩; clear ho8 hb8 H7 HR7; change Hid _))
  unfold Hid
  go_wp2_with (go_at_call 18; refine (one_accs H8.out.1 (by decide)).mono ?_; rintro _ w9 ⟨a9, c9, rfl, h9⟩; have H9 : Hid (One w w9 sb g bk 2 key [97, 98, 99] (fun i => i = kb ∨ (Value.slice a8 [97, 98, 99].length c8).ownBlock = some i) ∧ w9.heap[kb]? = some (.cells (bv key).toArray 38 (0, 0)) ∧ w9.ownsRow 0 5 1 (.slice a8 [97, 98, 99].length c8) [97, 98, 99].length (bv [97, 98, 99])) := ⟨H8.out.1.keep h9 (fun i q => Or.inl q), (h9.block _ (Array.getElem?_eq_some_iff.1 H8.out.2.1).1).trans H8.out.2.1, own_off H8.out.2.2 (G := fun _ => False) (Turn.of_below h9) (Off.none _ _)⟩; clear h9 H8; change Hid _)
  unfold Hid
  have HR9 : Hid (w9.rangeAt kb 0 (bv key)) := blk_rng H9.out.2.1
  go_wp2_with (first
    | refine wpList_load_mid_g (by kernel_rfl) 38 _ (by rfl) kb 0 (by rfl) (bv key) _ HR9.out Tryz.underlying38 rfl HI.out.1 ?_
    | (go_at_call 13; refine (one_fresh H9.out.1 (by decide) HK.out.1 (by decide) HK.out.2.1).mono ?_; rintro _ wA ⟨uA, rfl, hoA, htA, hA⟩; obtain ⟨aA, cA, eA⟩ := own_slice hoA; subst eA; have HA : Hid (One w wA sb g bk 3 key [97, 98, 99] (fun _ => False) ∧ wA.heap[kb]? = some (.cells (bv key).toArray 38 (0, 0)) ∧ Byt wA (.slice a8 [97, 98, 99].length c8) [97, 98, 99] ∧ Byt wA (.slice aA [97, 98, 99].length cA) [97, 98, 99]) := ⟨hA, htA.at_new H9.out.2.1 (fun q => q (Or.inl rfl)), ⟨own_turn H9.out.2.2 htA (fun i q z => z (Or.inr q)), by decide, by decide⟩, ⟨own_base hoA, by decide, by decide⟩⟩; clear hoA htA hA H9 HR9; change Hid _))
  unfold Hid
  have cv1 : (convert 29 9 (.slice a8 3 c8)).run Tryz.prog wA = .ok (.string { data := #[97, 98, 99] }) wA := HA.out.2.2.1.conv (Below.refl _ _)
  have cv2 : (convert 29 9 (.slice aA 3 cA)).run Tryz.prog wA = .ok (.string { data := #[97, 98, 99] }) wA := HA.out.2.2.2.conv (Below.refl _ _)
  have c0 : wA.cell? ⟨kb, 0, none⟩ = some (.int .u8 186) := by
    have := blk_rng HA.out.2.1 0 (.int .u8 ((Dg.gd key 0 : Nat) : Int)) (bv_at (by have := HK.out.1.1; omega))
    rw [HK.out.2.2] at this
    exact this
  go_wp2_with (go_at_call 18; refine (one_accs HA.out.1 (by decide)).mono ?_; rintro _ wB ⟨aB, cB, rfl, hB⟩; have HB : Hid (One w wB sb g bk 3 key [97, 98, 99] (fun _ => False)) := HA.out.1.keep hB (fun i q => Or.inl q); clear hB HA cv1 cv2 c0; change Hid _)
  unfold Hid
  go_wp2_with fail
  go_ret
  obtain ⟨_, _, _, _, _, _, _, _, _, _, _, _, _, _, _, _, _, _, _, h3, _⟩ := HB.out
  exact ⟨rfl, h3⟩
end Go.Proofs.YtpmdjopojcgpeaaGreatDoor
