import Derived.Test.YtepeolbbplodfaaGreatDoorX4q
import Derived.Test.YtepeolbbplodfaaGreatDoorX5q
import Derived.Test.YtepeolbbplodfaaGreatDoorXEq
import Derived.Test.YtepeolbbplodfaaGreatDoorX9q
/-
  goDown: the errors, the empty trie, a root that is a leaf. (Written by gen_x6.py.)
-/
namespace Go.Proofs.YtepeolbbplodfaaGreatDoor
open Go.RowKit Go.Maps

set_option maxRecDepth 100000 in
set_option maxHeartbeats 800000 in
theorem gd_nil (w : World) {h : List Nat} (bv' kv fn : Value) :
    Calls Tryz.prog 33 #[.nilIface, bv', .agg (bv h).toArray, kv, fn] w fun e w' => e = .returned (.tuple #[.slice none 0 0, .bool false, .int .i64 1]) ∧ Below w.heap.size w w' := by
  have on := all_bv h
  go_enter Tryz.func33, Tryz.ntmps33
  go_wp2_with fail
  go_ret3
  exact ⟨rfl, below_alloc _ _⟩
set_option maxRecDepth 100000 in
set_option maxHeartbeats 800000 in
theorem gd_nob (w : World) {h : List Nat} (t : TypeId) (rv kv fn : Value) :
    Calls Tryz.prog 33 #[.iface t rv, .pointer none, .agg (bv h).toArray, kv, fn] w fun e w' => e = .returned (.tuple #[.slice none 0 0, .bool false, .int .i64 1]) ∧ Below w.heap.size w w' := by
  have on := all_bv h
  go_enter Tryz.func33, Tryz.ntmps33
  go_wp2_with fail
  go_ret3
  exact ⟨rfl, below_alloc _ _⟩
set_option maxRecDepth 100000 in
set_option maxHeartbeats 800000 in
theorem gd_long (w : World) {h : List Nat} (t : TypeId) (bk : Nat) (rv fn : Value) (ka : Option Addr) (kn kc : Nat) (hk : 32 < kn) (hk2 : kn ≤ 140737488351232) :
    Calls Tryz.prog 33 #[.iface t rv, .pointer (some ⟨bk, 0, none⟩), .agg (bv h).toArray, .slice ka kn kc, fn] w fun e w' => e = .returned (.tuple #[.slice none 0 0, .bool false, .int .i64 2]) ∧ Below w.heap.size w w' := by
  have on := all_bv h
  have i1 : (32 : Int) < (kn : Int) := by omega
  go_enter Tryz.func33, Tryz.ntmps33
  go_wp2_with fail
  go_ret3
  exact ⟨rfl, below_alloc _ _⟩
set_option maxRecDepth 100000 in
set_option maxHeartbeats 3200000 in
theorem gd_empty {w : World} {bk bits N : Nat} {F : Nat → Prop} (hb : Bk w bk bits N F) (hG : Dg.Ground w) (hN : N ≤ 1000) {h : List Nat} (hh : h = Dg.kh bits s128) (t : TypeId) (rv fn : Value) (ka : Option Addr) (kn kc : Nat) (hk : kn ≤ 32) :
    Calls Tryz.prog 33 #[.iface t rv, .pointer (some ⟨bk, 0, none⟩), .agg (bv h).toArray, .slice ka kn kc, fn] w fun e w' => e = .returned (.tuple #[.slice none 0 0, .bool false, .int .i64 0]) ∧ Turn F w w' ∧ ∃ F', Bk w' bk bits (N + 1) F' ∧ ∀ i, F' i → F i ∨ w.heap.size ≤ i := by
  have on := all_bv h
  have i1 : ¬ (32 : Int) < (kn : Int) := by omega
  obtain ⟨W, eW⟩ : ∃ W, W = w.alloc (.cells (bv h).toArray 31) := ⟨_, rfl⟩
  have b0 : Below w.heap.size w W := by rw [eW]; exact below_alloc _ _
  have gh : W.heap[w.heap.size]? = some (.cells (bv h).toArray 31 (0, 0)) := by rw [eW]; exact heap_alloc_new _ _
  have HA : Hid (W.drew.heap[w.heap.size]? = some (.cells (bv h).toArray 31 (0, 0))) := gh
  have HD : Hid (Below w.heap.size w W.drew) := b0.drew
  have HL : Hid (∀ i, F i → i < w.heap.size) := fun i q => (hb.lim i q).2
  have HE : Hid (Calls Tryz.prog 53 #[.pointer (some ⟨bk, 0, none⟩)] W.drew fun e w' => e = .returned (.agg (bv (Dg.kh bits s128)).toArray) ∧ Turn F W.drew w' ∧ ∃ F', Bk w' bk bits (N + 1) F' ∧ ∀ i, F' i → F i ∨ W.drew.heap.size ≤ i) := nEmpty_any (hb.keep b0.drew) (hG.below b0.drew) hN
  have HKM : Hid (IsH (Dg.kh bits s128)) := isH_kh _ _
  obtain ⟨km, ekm⟩ : ∃ k, k = Dg.kh bits s128 := ⟨_, rfl⟩
  rw [← ekm] at HE HKM
  have HI : Hid (IsH h) := by rw [hh]; exact isH_kh _ _
  obtain rfl : km = h := by rw [ekm, hh]
  clear hb hG hN hh ekm b0 gh
  go_enter Tryz.func33, Tryz.ntmps33
  go_wp2_with fail
  rw [← eW]
  clear eW
  refine wp_region_held_drew (S := fun u => u.heap[w.heap.size]? = some (.cells (bv km).toArray 31 (0, 0))) (by kernel_rfl) (by exact HA.out) ?_
  intro hS
  change wpAnyH _ _ _ _ _ 4 _ _ _
  refine wpAnyH_take (i := 0) (v := (.agg (bv km).toArray)) (by simp only [List.getElem?_toArray, List.getElem?_cons_zero]; rfl) (by kernel_rfl) (by kernel_rfl) (by kernel_rfl) (by exact fun _ _ _ h => h) (Z.y_s_Hash (by kernel_rfl) _ rfl _ _ rfl km HI.out.1 (fun u hs => blk_rng hs)) hS ?_
  try simp only [Act.put, List.setIfInBounds_toArray, List.set_cons_zero, List.set_cons_succ]
  refine wpAnyH_take (i := 1) (v := (.pointer (some ⟨bk, 0, none⟩))) (by simp only [List.getElem?_toArray, List.getElem?_cons_zero, List.getElem?_cons_succ]; rfl) (by kernel_rfl) (by kernel_rfl) (by kernel_rfl) (by exact fun _ _ _ h => h) (Z.y_move (by kernel_rfl) _ rfl _ rfl) hS ?_
  try simp only [Act.put, List.setIfInBounds_toArray, List.set_cons_zero, List.set_cons_succ]
  refine wpAnyH_ready (rs := [2]) (by kernel_rfl) (by simp) ?_
  refine AllReadyH.cons (by simp only [List.getElem?_toArray, List.getElem?_cons_zero, List.getElem?_cons_succ]; rfl) (fun K hK => ?_) AllReadyH.nil
  go_simp
  refine HE.out.mono ?_
  rintro _ u1 ⟨rfl, ht1, F1, hF1, hF2⟩
  have hS1 : u1.heap[w.heap.size]? = some (.cells (bv km).toArray 31 (0, 0)) := ht1.at_new hS (fun q => by have := HL.out _ q; omega)
  have H1 : Hid (Turn F w u1 ∧ Bk u1 bk bits (N + 1) F1 ∧ (∀ i, F1 i → F i ∨ w.heap.size ≤ i)) := ⟨(Turn.of_below HD.out).trans ht1 (fun _ q => Or.inl q), hF1, fun i q => (hF2 i q).imp id (fun z => Nat.le_trans HD.out.size z)⟩
  clear ht1 hF1 hF2
  refine hK.out _ _ hS1 (fun hS => ?_)
  clear hK K
  try simp only [Act.put, List.setIfInBounds_toArray, List.set_cons_zero, List.set_cons_succ]
  refine wpAnyH_take (i := 3) (v := (.bool true)) (by simp only [List.getElem?_toArray, List.getElem?_cons_zero, List.getElem?_cons_succ]; rfl) (by kernel_rfl) (by kernel_rfl) (by kernel_rfl) (by exact fun _ _ _ h => h) (Z.y_eqlH (by kernel_rfl) _ _ rfl _ _ rfl rfl HI.out.1 HI.out.2 HI.out.1 HI.out.2 true (by simp)) hS ?_
  try simp only [Act.put, List.setIfInBounds_toArray, List.set_cons_zero, List.set_cons_succ]
  refine wpAnyH_done (by kernel_rfl) ?_ _
  clear hS HA HE
  go_wp2_with fail
  go_ret3
  exact ⟨rfl, H1.out.1, F1, H1.out.2.1, H1.out.2.2⟩
end Go.Proofs.YtepeolbbplodfaaGreatDoor

/-
  goDown: a root that is a leaf. (Written by gen_x7.py.)
-/
namespace Go.Proofs.YtepeolbbplodfaaGreatDoor
open Go.RowKit Go.Maps

theorem built117 (a b c e : Value) (ha : a.cells = #[a]) (hb : b.cells = #[b]) (hc : c.cells = #[c]) (he : e.cells = #[e]) : Tryz.prog.built 117 [(0, a), (1, b), (2, c), (4, e)] = some #[a, b, c, .int .i64 0, e] := by
  have f0 : ∀ parts, Tryz.prog.built 117 parts = Instr.fill (fun i => (#[(0, 1), (1, 1), (2, 1), (3, 1), (4, 1)] : Array (Nat × Nat))[i]?) #[.nilIface, .pointer none, .nilFunc, .int .i64 0, .slice none 0 0] parts := fun parts => by kernel_rfl
  rw [f0]
  simp [Instr.fill, ha, hb, hc, he]
theorem mst_le {tk : Nat} {n : Nd} (h : mst tk n = true) : tk + n.path.length ≤ 64 := by
  unfold mst at h
  rw [Bool.and_eq_true] at h
  exact of_decide_eq_true h.1
theorem vb_turn {w0 w1 w2 w3 : World} {v : Value} {s : List Nat} {G : Nat → Prop} (h : Ans w0 w1 v s) (k : Below w1.heap.size w1 w2) (t : Turn G w2 w3) (hd : ∀ i, w0.heap.size ≤ i → i < w1.heap.size → ¬ G i) : Vb w3 v s := by
  have h1 := own_turn (own_same h.own (fun g hg => k.block g (h.own.lt g hg).2)) t (fun g hg => hd g (h.own.lt g hg).1 (h.own.lt g hg).2)
  exact vb_of_own h1 rfl h.byt h.len
theorem zero117 : (Tryz.prog.info? 117).map (fun i => (i.zero, i.size)) = some (some (.agg #[.nilIface, .pointer none, .nilFunc, .int .i64 0, .slice none 0 0]), 5) := by kernel_rfl
theorem wpList_stW {ops : Array Oper} {rest : List Oper} {op : Oper} {a : Act} {w : World} {Q : Exit → Act → World → Prop} (hw : Region.wanted op (yielded ops a.tmps) = true) (x y : Operand) (ho : op.op = .store 117 x y) (cs old : Array Value) (hs : cs.size = 5) (ho2 : old.size = 5) (h1 : cs.all (·.oneCell') = true)
    (hx : a.eval x = .pointer (some ⟨w.heap.size, 0, none⟩)) (hy : a.eval y = .agg cs) (h : wpList Tryz.prog ops Q rest (a.put op.dst undef) (w.alloc (.cells cs 117))) :
    wpList Tryz.prog ops Q (op :: rest) a (w.alloc (.cells old 117)) := by
  refine wpList_g hw (wp_store_row 117 x y ho w.heap.size cs hx hy 117 old (heap_alloc_new _ _) (by rw [hs]; kernel_rfl) (by rw [hs, ho2]) h1 ?_)
  rw [World.setRow_alloc_new]
  exact h
set_option maxRecDepth 100000 in
set_option maxHeartbeats 6400000 in
theorem gd_hit {w : World} {bk bits N : Nat} {F : Nat → Prop} (hb : Bk w bk bits N F) (hG : Dg.Ground w) (hN : N + 1 ≤ 1000) {h s : List Nat} (hh : h = Dg.kh bits s) (hne : h ≠ Dg.kh bits s128) {src : Value} {f : Nat} {rv : Value} (hsc : Sc src f rv) {G : Nat → Prop} (hGF : ∀ i, G i → 2 < i ∧ ¬ F i ∧ i < w.heap.size)
    {n : Nd} (hnW : n.W) (hd : decN KD s = some n) (hk1 : n.k = 1) (hms : mst 0 n = true) {key : List Nat} {ka : Option Addr} {kn kc : Nat} (hkv : Vo F w (.slice ka kn kc) key) (hkl : kn ≤ 32) {R : World → World → Prop} (hsrc : ∀ u F', Turn F w u → (∀ i, F' i → i < u.heap.size) → Calls Tryz.prog f #[rv, .agg (bv h).toArray] u (Got G F' s R u)) (hRS : ∀ a b, R a b → a.heap.size ≤ b.heap.size) (hp : n.path = lst (2 * key.length) (nib key)) (hv : 0 < n.val.length) :
    Calls Tryz.prog 33 #[src, .pointer (some ⟨bk, 0, none⟩), .agg (bv h).toArray, .slice ka kn kc, gfn] w fun e w' => ∃ v, e = .returned (.tuple #[v, .bool true, .int .i64 0]) ∧ w'.ownsRow w.heap.size 5 1 v n.val.length (bv n.val) ∧ Turn (fun i => F i ∨ G i) w w' ∧ ∃ u1 u2 F', Turn F w u1 ∧ R u1 u2 ∧ Turn (fun i => F i ∨ (w.heap.size ≤ i ∧ i < u1.heap.size)) u2 w' ∧ Bk w' bk bits (N + 2) F' ∧ (∀ i, F' i → F i ∨ (w.heap.size ≤ i ∧ i < u1.heap.size) ∨ u2.heap.size ≤ i) ∧ ∀ g, v.ownBlock = some g → u2.heap.size ≤ g ∧ ¬ F' g := by
  have on := all_bv h
  have i1 : ¬ (32 : Int) < (kn : Int) := by omega
  obtain ⟨W, eW⟩ : ∃ W, W = w.alloc (.cells (bv h).toArray 31) := ⟨_, rfl⟩
  have b0 : Below w.heap.size w W := by rw [eW]; exact below_alloc _ _
  have gh : W.heap[w.heap.size]? = some (.cells (bv h).toArray 31 (0, 0)) := by rw [eW]; exact heap_alloc_new _ _
  have HA : Hid (W.drew.heap[w.heap.size]? = some (.cells (bv h).toArray 31 (0, 0))) := gh
  have HD : Hid (Below w.heap.size w W.drew) := b0.drew
  have HL : Hid (∀ i, F i → i < w.heap.size) := fun i q => (hb.lim i q).2
  have HE : Hid (Calls Tryz.prog 53 #[.pointer (some ⟨bk, 0, none⟩)] W.drew fun e w' => e = .returned (.agg (bv (Dg.kh bits s128)).toArray) ∧ Turn F W.drew w' ∧ ∃ F', Bk w' bk bits (N + 1) F' ∧ ∀ i, F' i → F i ∨ W.drew.heap.size ≤ i) := nEmpty_any (hb.keep b0.drew) (hG.below b0.drew) (by omega)
  have HKM : Hid (IsH (Dg.kh bits s128)) := isH_kh _ _
  obtain ⟨km, ekm⟩ : ∃ k, k = Dg.kh bits s128 := ⟨_, rfl⟩
  rw [← ekm] at HE HKM
  have HI : Hid (IsH h) := by rw [hh]; exact isH_kh _ _
  have HNE : Hid (decide (h = km) = false) := decide_eq_false (by rw [ekm]; exact hne)
  have HSC : Hid (Sc src f rv) := hsc
  obtain ⟨⟨ty, es, hm⟩, heg⟩ := hsc
  subst es
  have HRS : Hid (∀ a b, R a b → a.heap.size ≤ b.heap.size) := hRS
  have HKV : Hid (Vo F w (.slice ka kn kc) key) := hkv
  have ekn : key.length = kn := by obtain ⟨_, _, _, _, e, _⟩ := hkv; injection e with _ e2 _; exact e2.symm
  have HSR : Hid (∀ u F', Turn F w u → (∀ i, F' i → i < u.heap.size) → Calls Tryz.prog f #[rv, .agg (bv h).toArray] u (Got G F' s R u)) := hsrc
  have HGF : Hid (∀ i, G i → 2 < i ∧ ¬ F i ∧ i < w.heap.size) := hGF
  have HDD : Hid (decN KD s = some n ∧ h = Dg.kh bits s ∧ N + 1 ≤ 1000 ∧ Dg.Ground w) := ⟨hd, hh, hN, hG⟩
  obtain ⟨rl, er⟩ : ∃ r, r = lst (2 * key.length) (nib key) := ⟨_, rfl⟩
  have hrl : rl.length = 2 * kn := by rw [er, lst_len, ekn]
  have HKL : Hid (∀ i, F i → 2 < i) := fun i q => (hb.lim i q).1
  clear hRS hb hG hN hh ekm b0 gh hne hm heg hkv hsrc hGF hd
  go_enter Tryz.func33, Tryz.ntmps33
  go_wp2_with fail
  rw [← eW]
  clear eW
  refine wp_region_held_drew (S := fun u => u.heap[w.heap.size]? = some (.cells (bv h).toArray 31 (0, 0))) (by kernel_rfl) (by exact HA.out) ?_
  intro hS
  change wpAnyH _ _ _ _ _ 4 _ _ _
  refine wpAnyH_take (i := 0) (v := (.agg (bv h).toArray)) (by simp only [List.getElem?_toArray, List.getElem?_cons_zero]; rfl) (by kernel_rfl) (by kernel_rfl) (by kernel_rfl) (by exact fun _ _ _ h => h) (Z.y_s_Hash (by kernel_rfl) _ rfl _ _ rfl h HI.out.1 (fun u hs => blk_rng hs)) hS ?_
  try simp only [Act.put, List.setIfInBounds_toArray, List.set_cons_zero, List.set_cons_succ]
  refine wpAnyH_take (i := 1) (v := (.pointer (some ⟨bk, 0, none⟩))) (by simp only [List.getElem?_toArray, List.getElem?_cons_zero, List.getElem?_cons_succ]; rfl) (by kernel_rfl) (by kernel_rfl) (by kernel_rfl) (by exact fun _ _ _ h => h) (Z.y_move (by kernel_rfl) _ rfl _ rfl) hS ?_
  try simp only [Act.put, List.setIfInBounds_toArray, List.set_cons_zero, List.set_cons_succ]
  refine wpAnyH_ready (rs := [2]) (by kernel_rfl) (by simp) ?_
  refine AllReadyH.cons (by simp only [List.getElem?_toArray, List.getElem?_cons_zero, List.getElem?_cons_succ]; rfl) (fun K hK => ?_) AllReadyH.nil
  go_simp
  refine HE.out.mono ?_
  rintro _ u1 ⟨rfl, ht1, F1, hF1, hF2⟩
  have hS1 : u1.heap[w.heap.size]? = some (.cells (bv h).toArray 31 (0, 0)) := ht1.at_new hS (fun q => by have := HL.out _ q; omega)
  have H1 : Hid (Turn F w u1 ∧ Bk u1 bk bits (N + 1) F1 ∧ (∀ i, F1 i → F i ∨ w.heap.size ≤ i)) := ⟨(Turn.of_below HD.out).trans ht1 (fun _ q => Or.inl q), hF1, fun i q => (hF2 i q).imp id (fun z => Nat.le_trans HD.out.size z)⟩
  clear ht1 hF1 hF2
  refine hK.out _ _ hS1 (fun hS => ?_)
  clear hK K
  try simp only [Act.put, List.setIfInBounds_toArray, List.set_cons_zero, List.set_cons_succ]
  refine wpAnyH_take (i := 3) (v := (.bool false)) (by simp only [List.getElem?_toArray, List.getElem?_cons_zero, List.getElem?_cons_succ]; rfl) (by kernel_rfl) (by kernel_rfl) (by kernel_rfl) (by exact fun _ _ _ h => h) (Z.y_eqlH (by kernel_rfl) _ _ rfl _ _ rfl rfl HI.out.1 HI.out.2 HKM.out.1 HKM.out.2 false HNE.out) hS ?_
  try simp only [Act.put, List.setIfInBounds_toArray, List.set_cons_zero, List.set_cons_succ]
  refine wpAnyH_done (by kernel_rfl) ?_ _
  clear hS HA HE
  have hv1 : Vo F u1 (.slice ka kn kc) key := HKV.out.turn H1.out.1 (fun _ q _ => q)
  have KN := onib_any hv1.vb (by omega)
  rw [← er] at KN
  have HS1 : Hid (u1.heap[w.heap.size]? = some (.cells (bv h).toArray 31 (0, 0))) := hS1
  clear hv1 hS1
  go_wp2_with (go_at_call 54; change Hid (Calls _ _ _ _ _))
  unfold Hid
  refine KN.mono ?_
  rintro _ u2 ⟨rr, rfl, ha⟩
  obtain ⟨ra, rc, rfl⟩ := ha.form
  rw [hrl]
  have H2 : Hid (Ans u1 u2 (.slice ra (2 * kn) rc) rl) := by show Ans _ _ _ _; rw [← hrl]; exact ha
  clear ha KN
  have zw : ∀ w : World, (zeroValue 117).run Tryz.prog w = .ok (.agg #[.nilIface, .pointer none, .nilFunc, .int .i64 0, .slice none 0 0]) w := fun w => (zero_of_info zero117).1 w
  have bw := built117 (.iface ty rv) (.pointer (some ⟨bk, 0, none⟩)) gfn (.slice ra (2 * kn) rc) rfl rfl rfl rfl
  obtain ⟨R2, eR2⟩ : ∃ R2, R2 = 2 * kn := ⟨_, rfl⟩
  rw [← eR2] at H2 bw hrl ⊢
  have HRL : Hid (rl.length = R2 ∧ R2 = 2 * kn ∧ rl = lst (2 * key.length) (nib key)) := ⟨hrl, eR2, er⟩
  clear eR2 hrl er
  have H3 : Hid (Wy (u2.alloc (.cells #[.iface ty rv, .pointer (some ⟨bk, 0, none⟩), gfn, .int .i64 0, .slice ra R2 rc] 117)) u2.heap.size (.iface ty rv) bk gfn 0 (.slice ra R2 rc) ∧ Below u2.heap.size u2 (u2.alloc (.cells #[.iface ty rv, .pointer (some ⟨bk, 0, none⟩), gfn, .int .i64 0, .slice ra R2 rc] 117)) ∧ (u2.alloc (.cells #[.iface ty rv, .pointer (some ⟨bk, 0, none⟩), gfn, .int .i64 0, .slice ra R2 rc] 117)).heap.size = u2.heap.size + 1) := ⟨⟨heap_alloc_new _ _⟩, below_alloc _ _, by simp⟩
  obtain ⟨u3, e3⟩ : ∃ u3, u3 = (u2.alloc (.cells #[.iface ty rv, .pointer (some ⟨bk, 0, none⟩), gfn, .int .i64 0, .slice ra R2 rc] 117)) := ⟨_, rfl⟩
  rw [← e3] at H3
  have HE3 : Hid (u3 = (u2.alloc (.cells #[.iface ty rv, .pointer (some ⟨bk, 0, none⟩), gfn, .int .i64 0, .slice ra R2 rc] 117))) := e3
  clear e3
  have b13 : Below u1.heap.size u1 u3 := ch H2.out.below H3.out.2.1
  have t03 : Turn F w u3 := H1.out.1.trans (Turn.of_below (F := F) b13) (fun _ q => Or.inl q)
  have s1 := H1.out.1.size
  have s2 := H2.out.below.size
  have s3 := H3.out.2.2
  have lim1 := H1.out.2.1.lim
  have KR := read_got (w := u3) H3.out.1 HSC.out (H1.out.2.1.keep b13) ((ground_turn HDD.out.2.2.2 H1.out.1 HKL.out).below b13) HDD.out.2.2.1 (G := G) (fun i q => ⟨(HGF.out i q).1, fun q2 => by
      rcases H1.out.2.2 i q2 with q3 | q3
      · exact (HGF.out i q).2.1 q3
      · have := (HGF.out i q).2.2; omega, by have := (HGF.out i q).2.2; omega, by have := (HGF.out i q).2.2; omega⟩) (fun q => by have := (lim1 _ q).2; omega) HDD.out.2.1 hnW HDD.out.1 0 (Nat.zero_le _) (R := R)
    (fun u k => HSR.out u F1 (t03.trans (Turn.of_below (F := F) k) (fun _ q => Or.inl q)) (fun i q => by have := (lim1 i q).2; have := k.size; omega))
  have gh3 : u3.rangeAt w.heap.size 0 (bv h) := rng_row ((b13.block _ (Array.getElem?_eq_some_iff.1 HS1.out).1).trans HS1.out)
  have H13 : Hid (Below u1.heap.size u1 u3 ∧ Turn F w u3 ∧ w.heap.size ≤ u1.heap.size ∧ u1.heap.size ≤ u2.heap.size ∧ u3.heap.size = u2.heap.size + 1) := ⟨b13, t03, s1, s2, s3⟩
  have hz := zv29
  clear b13 t03 s1 s2 s3 lim1 HS1
  go_wp2_with (first
    | refine Dg.wpList_bdL (by kernel_rfl) _ [(0, .tmp 31), (1, .tmp 32), (2, .tmp 33), (4, .tmp 35)] (by rfl) _ bw ?_
    | (refine wpList_stW (by kernel_rfl) _ _ (by rfl) #[.iface ty rv, .pointer (some ⟨bk, 0, none⟩), gfn, .int .i64 0, .slice ra R2 rc] _ (by rfl) (by rfl) (by simp [Value.oneCell']) (by rfl) (by rfl) ?_; rw [← HE3.out])
    | (refine wpList_ld24 (by kernel_rfl) _ (by rfl) w.heap.size 0 h HI.out.1 gh3 (by rfl) ?_)
    | (go_at_call 55; change Hid (Calls _ _ _ _ _)))
  unfold Hid
  refine KR.mono ?_
  rintro _ u4 ⟨z, rfl, no, t4, hu4⟩
  obtain ⟨va, vc, ev⟩ := own_slice no.v
  obtain ⟨VL, eVL⟩ : ∃ l, l = n.val.length := ⟨_, rfl⟩
  rw [← eVL] at ev
  have one := no.inn.one
  have H4 : Hid (Nout u3.heap.size u4 n z ∧ Turn (fun i => F1 i ∨ G i) u3 u4 ∧ ∃ v1 v2 F', Below u3.heap.size u3 v1 ∧ R v1 v2 ∧ Turn (fun i => F1 i ∨ (u3.heap.size ≤ i ∧ i < v1.heap.size)) v2 u4 ∧ Bk u4 bk bits (N + 1 + 1) F' ∧ (∀ i, F' i → F1 i ∨ v2.heap.size ≤ i) ∧ ∃ B, Nout B u4 n z ∧ (∀ i, F' i → i < B) ∧ v2.heap.size ≤ B) := ⟨no, t4, hu4⟩
  clear KR no t4 hu4 gh3 bw zw HE3
  go_wp2_with (refine wpList_st29 (by kernel_rfl) _ _ (by rfl) n nz z uz hnW nz_w one (by rfl) (by rfl) ?_)
  obtain ⟨u5, e5⟩ : ∃ u5, u5 = u4.alloc (.cells (nc n z).toArray 110) := ⟨_, rfl⟩
  have H5 : Hid (Below u4.heap.size u4 u5 ∧ Nb u5 u4.heap.size n z ∧ u5.heap.size = u4.heap.size + 1) := by rw [e5]; exact ⟨below_alloc _ _, nb_new hnW _ _, by simp⟩
  rw [← e5]
  clear e5
  have s1 := H13.out.2.2.1
  have s2 := H13.out.2.2.2.1
  have s3 := H13.out.2.2.2.2
  have lim1 := H1.out.2.1.lim
  have w5 : Wy u5 u2.heap.size (.iface ty rv) bk gfn 0 (.slice ra R2 rc) := (H3.out.1.turn H4.out.2.1 (fun q => by
      rcases q with q | q
      · have := (lim1 _ q).2; omega
      · have := (HGF.out _ q).2.2; omega)).keep H5.out.1
  have r5 : Vb u5 (.slice ra rl.length rc) rl := by
    rw [HRL.out.1]
    refine Vb.keep ?_ H5.out.1
    have := H2.out.vb.keep H3.out.2.1
    exact vb_turn H2.out H3.out.2.1 H4.out.2.1 (fun i h1 h2 q => by
      rcases q with q | q
      · have := (lim1 _ q).2; omega
      · have := (HGF.out _ q).2.2; omega)
  have n5 : Nin u5 n z := (H4.out.1.inn).keep H5.out.1
  rw [← HRL.out.1] at w5
  have HM5 : Hid (∀ u, Below u5.heap.size u5 u → Calls Tryz.prog 56 #[.pointer (some ⟨u2.heap.size, 0, none⟩), .agg (nc n z).toArray] u fun e w' => e = .returned (.bool true) ∧ Below u.heap.size u w') := fun u k => by
    rw [← hms]
    exact mayStand_any (w5.keep k) (n5.keep k) (by omega) (by have := mst_le hms; omega)
  obtain ⟨L, eL⟩ : ∃ L, L = n.path.length := ⟨_, rfl⟩
  have HP5 : Hid (∀ u, Below u5.heap.size u5 u → Calls Tryz.prog 57 #[.pointer (some ⟨u2.heap.size, 0, none⟩), .agg (nc n z).toArray] u fun e w' => e = .returned (.tuple #[.slice va VL vc, .agg (rcs rz (.slice none 0 0)).toArray]) ∧ Turn (fun i => i = u2.heap.size) u w') := fun u k => by
    have e : n.path = rl := by rw [hp, HRL.out.2.2]
    refine (pass_end (w5.keep k) (r5.keep k) (n5.keep k) (by unfold pre; rw [e, List.take_length]; exact decide_eq_true rfl) (by have := mst_le hms; omega) (by rw [hk1]; decide) (by rw [e])).mono ?_
    rintro _ w' ⟨rfl, _, q⟩
    rw [ev]
    exact ⟨rfl, q⟩
  clear hp eL
  have HN5 : Hid (Nb u5 u4.heap.size n z) := H5.out.2.1
  clear w5 r5 n5
  go_loopg [15] 0 (fun g e wr => g = 0 ∧ e = .int .i64 0 ∧ wr = u5)
  case atStart => exact ⟨rfl, rfl, rfl⟩
  case round =>
    obtain ⟨rfl, rfl, rfl⟩ := hrel
    have nb5 := HN5.out
    have hz6 := zv26
    go_wp2_with (first
      | refine wpList_ld29 (by kernel_rfl) _ (by rfl) _ _ _ hnW nb5 (by rfl) ?_
      | refine wpList_ld29 (by kernel_rfl) _ (by rfl) _ _ _ hnW nb6 (by rfl) ?_
      | (go_at_call 56; go_loud (refine (HM5.out _ (Below.refl _ _)).mono ?_; rintro _ u6 ⟨rfl, b6⟩; have nb6 := nb5.keep b6; have H6 : Hid (Below wr.heap.size wr u6) := b6; clear b6))
      | (go_at_call 57; go_loud (refine (HP5.out _ H6.out).mono ?_; rintro _ u7 ⟨rfl, t7⟩; have H7 : Hid (Turn (fun i => i = u2.heap.size) u6 u7) := t7; clear t7))
      | ((refine wpList_st26 (by kernel_rfl) _ _ (by rfl) rz rz (.slice none 0 0) (.slice none 0 0) rz_w.1 rz_w.1 rfl (by rfl) (by rfl) ?_; have c8 := (rng_ref rz_w.1 (rng_new u7 (rcs rz (.slice none 0 0)) 107)).1)))
    go_ret3
    have t48 : Turn (fun i => i = u2.heap.size) u4 (u7.alloc (.cells (rcs rz (.slice none 0 0)).toArray 107)) := ((Turn.of_below (ch H5.out.1 H6.out)).trans H7.out (fun _ q => Or.inl q)).trans (Turn.of_below (F := fun i => i = u2.heap.size) (below_alloc u7 _)) (fun _ q => Or.inl q)
    have s4 := H4.out.2.1.size
    have s0 := H1.out.1.size
    obtain ⟨v1, v2, F4, y1, y2, y3, q1, q2, B4, nB, fB, vB⟩ := H4.out.2.2
    have y0 := y1.size
    have F1w : ∀ i, F1 i → F i ∨ w.heap.size ≤ i := H1.out.2.2
    have ow := own_turn H4.out.1.v t48 (fun g hg => by have := (H4.out.1.v.lt g hg).1; omega)
    rw [ev, eVL] at ow
    refine ⟨.slice va n.val.length vc, rfl, own_rebase ow (fun g hg => by have := (ow.lt g hg).1; omega), ((H13.out.2.1.mono (fun i q => Or.inl (Or.inl q))).trans H4.out.2.1 (fun i q => ?_)).trans t48 (fun i q => Or.inr (by omega)), v1, v2, F4, H13.out.2.1.trans (Turn.of_below (F := F) y1) (fun _ q => Or.inl q), y2, (y3.mono (fun i q => ?_)).trans t48 (fun i q => Or.inl (Or.inr (by omega))), q1.turn t48 (fun i q e => ?_), fun i q => ?_, fun g hg => ?_⟩
    · rcases q with q | q
      · rcases F1w i q with q3 | q3
        · exact Or.inl (Or.inl q3)
        · exact Or.inr q3
      · exact Or.inl (Or.inr q)
    · rcases q with q | q
      · rcases F1w i q with q3 | q3
        · exact Or.inl (Or.inl q3)
        · exact Or.inl (Or.inr ⟨q3, by have := (lim1 i q).2; omega⟩)
      · exact Or.inl (Or.inr ⟨by omega, q.2⟩)
    · subst e
      rcases q2 _ q with q | q
      · have := (lim1 _ q).2; omega
      · have := HRS.out v1 v2 y2; omega
    · rcases q2 _ q with q | q
      · rcases F1w i q with q3 | q3
        · exact Or.inl q3
        · exact Or.inr (Or.inl ⟨q3, by have := (lim1 i q).2; omega⟩)
      · exact Or.inr (Or.inr q)
    · have e9 : z.v.ownBlock = some g := by rw [ev, eVL]; exact hg
      have := (nB.v.lt g e9).1
      exact ⟨by omega, fun q => by have := fB g q; omega⟩
set_option maxRecDepth 100000 in
set_option maxHeartbeats 6400000 in
theorem gd_miss {w : World} {bk bits N : Nat} {F : Nat → Prop} (hb : Bk w bk bits N F) (hG : Dg.Ground w) (hN : N + 1 ≤ 1000) {h s : List Nat} (hh : h = Dg.kh bits s) (hne : h ≠ Dg.kh bits s128) {src : Value} {f : Nat} {rv : Value} (hsc : Sc src f rv) {G : Nat → Prop} (hGF : ∀ i, G i → 2 < i ∧ ¬ F i ∧ i < w.heap.size)
    {n : Nd} (hnW : n.W) (hd : decN KD s = some n) (hms : mst 0 n = true) {key : List Nat} {ka : Option Addr} {kn kc : Nat} (hkv : Vo F w (.slice ka kn kc) key) (hkl : kn ≤ 32) {R : World → World → Prop} (hsrc : ∀ u F', Turn F w u → (∀ i, F' i → i < u.heap.size) → Calls Tryz.prog f #[rv, .agg (bv h).toArray] u (Got G F' s R u)) (hRS : ∀ a b, R a b → a.heap.size ≤ b.heap.size) (hp : pre n.path (lst (2 * key.length) (nib key)) = false) :
    Calls Tryz.prog 33 #[src, .pointer (some ⟨bk, 0, none⟩), .agg (bv h).toArray, .slice ka kn kc, gfn] w fun e w' => e = .returned (.tuple #[.slice none 0 0, .bool false, .int .i64 0]) ∧ Turn (fun i => F i ∨ G i) w w' ∧ ∃ u1 u2 F', Turn F w u1 ∧ R u1 u2 ∧ Turn (fun i => F i ∨ (w.heap.size ≤ i ∧ i < u1.heap.size)) u2 w' ∧ Bk w' bk bits (N + 2) F' ∧ (∀ i, F' i → F i ∨ (w.heap.size ≤ i ∧ i < u1.heap.size) ∨ u2.heap.size ≤ i) := by
  have on := all_bv h
  have i1 : ¬ (32 : Int) < (kn : Int) := by omega
  obtain ⟨W, eW⟩ : ∃ W, W = w.alloc (.cells (bv h).toArray 31) := ⟨_, rfl⟩
  have b0 : Below w.heap.size w W := by rw [eW]; exact below_alloc _ _
  have gh : W.heap[w.heap.size]? = some (.cells (bv h).toArray 31 (0, 0)) := by rw [eW]; exact heap_alloc_new _ _
  have HA : Hid (W.drew.heap[w.heap.size]? = some (.cells (bv h).toArray 31 (0, 0))) := gh
  have HD : Hid (Below w.heap.size w W.drew) := b0.drew
  have HL : Hid (∀ i, F i → i < w.heap.size) := fun i q => (hb.lim i q).2
  have HE : Hid (Calls Tryz.prog 53 #[.pointer (some ⟨bk, 0, none⟩)] W.drew fun e w' => e = .returned (.agg (bv (Dg.kh bits s128)).toArray) ∧ Turn F W.drew w' ∧ ∃ F', Bk w' bk bits (N + 1) F' ∧ ∀ i, F' i → F i ∨ W.drew.heap.size ≤ i) := nEmpty_any (hb.keep b0.drew) (hG.below b0.drew) (by omega)
  have HKM : Hid (IsH (Dg.kh bits s128)) := isH_kh _ _
  obtain ⟨km, ekm⟩ : ∃ k, k = Dg.kh bits s128 := ⟨_, rfl⟩
  rw [← ekm] at HE HKM
  have HI : Hid (IsH h) := by rw [hh]; exact isH_kh _ _
  have HNE : Hid (decide (h = km) = false) := decide_eq_false (by rw [ekm]; exact hne)
  have HSC : Hid (Sc src f rv) := hsc
  obtain ⟨⟨ty, es, hm⟩, heg⟩ := hsc
  subst es
  have HRS : Hid (∀ a b, R a b → a.heap.size ≤ b.heap.size) := hRS
  have HKV : Hid (Vo F w (.slice ka kn kc) key) := hkv
  have ekn : key.length = kn := by obtain ⟨_, _, _, _, e, _⟩ := hkv; injection e with _ e2 _; exact e2.symm
  have HSR : Hid (∀ u F', Turn F w u → (∀ i, F' i → i < u.heap.size) → Calls Tryz.prog f #[rv, .agg (bv h).toArray] u (Got G F' s R u)) := hsrc
  have HGF : Hid (∀ i, G i → 2 < i ∧ ¬ F i ∧ i < w.heap.size) := hGF
  have HDD : Hid (decN KD s = some n ∧ h = Dg.kh bits s ∧ N + 1 ≤ 1000 ∧ Dg.Ground w) := ⟨hd, hh, hN, hG⟩
  obtain ⟨rl, er⟩ : ∃ r, r = lst (2 * key.length) (nib key) := ⟨_, rfl⟩
  have hrl : rl.length = 2 * kn := by rw [er, lst_len, ekn]
  have HKL : Hid (∀ i, F i → 2 < i) := fun i q => (hb.lim i q).1
  clear hRS hb hG hN hh ekm b0 gh hne hm heg hkv hsrc hGF hd
  go_enter Tryz.func33, Tryz.ntmps33
  go_wp2_with fail
  rw [← eW]
  clear eW
  refine wp_region_held_drew (S := fun u => u.heap[w.heap.size]? = some (.cells (bv h).toArray 31 (0, 0))) (by kernel_rfl) (by exact HA.out) ?_
  intro hS
  change wpAnyH _ _ _ _ _ 4 _ _ _
  refine wpAnyH_take (i := 0) (v := (.agg (bv h).toArray)) (by simp only [List.getElem?_toArray, List.getElem?_cons_zero]; rfl) (by kernel_rfl) (by kernel_rfl) (by kernel_rfl) (by exact fun _ _ _ h => h) (Z.y_s_Hash (by kernel_rfl) _ rfl _ _ rfl h HI.out.1 (fun u hs => blk_rng hs)) hS ?_
  try simp only [Act.put, List.setIfInBounds_toArray, List.set_cons_zero, List.set_cons_succ]
  refine wpAnyH_take (i := 1) (v := (.pointer (some ⟨bk, 0, none⟩))) (by simp only [List.getElem?_toArray, List.getElem?_cons_zero, List.getElem?_cons_succ]; rfl) (by kernel_rfl) (by kernel_rfl) (by kernel_rfl) (by exact fun _ _ _ h => h) (Z.y_move (by kernel_rfl) _ rfl _ rfl) hS ?_
  try simp only [Act.put, List.setIfInBounds_toArray, List.set_cons_zero, List.set_cons_succ]
  refine wpAnyH_ready (rs := [2]) (by kernel_rfl) (by simp) ?_
  refine AllReadyH.cons (by simp only [List.getElem?_toArray, List.getElem?_cons_zero, List.getElem?_cons_succ]; rfl) (fun K hK => ?_) AllReadyH.nil
  go_simp
  refine HE.out.mono ?_
  rintro _ u1 ⟨rfl, ht1, F1, hF1, hF2⟩
  have hS1 : u1.heap[w.heap.size]? = some (.cells (bv h).toArray 31 (0, 0)) := ht1.at_new hS (fun q => by have := HL.out _ q; omega)
  have H1 : Hid (Turn F w u1 ∧ Bk u1 bk bits (N + 1) F1 ∧ (∀ i, F1 i → F i ∨ w.heap.size ≤ i)) := ⟨(Turn.of_below HD.out).trans ht1 (fun _ q => Or.inl q), hF1, fun i q => (hF2 i q).imp id (fun z => Nat.le_trans HD.out.size z)⟩
  clear ht1 hF1 hF2
  refine hK.out _ _ hS1 (fun hS => ?_)
  clear hK K
  try simp only [Act.put, List.setIfInBounds_toArray, List.set_cons_zero, List.set_cons_succ]
  refine wpAnyH_take (i := 3) (v := (.bool false)) (by simp only [List.getElem?_toArray, List.getElem?_cons_zero, List.getElem?_cons_succ]; rfl) (by kernel_rfl) (by kernel_rfl) (by kernel_rfl) (by exact fun _ _ _ h => h) (Z.y_eqlH (by kernel_rfl) _ _ rfl _ _ rfl rfl HI.out.1 HI.out.2 HKM.out.1 HKM.out.2 false HNE.out) hS ?_
  try simp only [Act.put, List.setIfInBounds_toArray, List.set_cons_zero, List.set_cons_succ]
  refine wpAnyH_done (by kernel_rfl) ?_ _
  clear hS HA HE
  have hv1 : Vo F u1 (.slice ka kn kc) key := HKV.out.turn H1.out.1 (fun _ q _ => q)
  have KN := onib_any hv1.vb (by omega)
  rw [← er] at KN
  have HS1 : Hid (u1.heap[w.heap.size]? = some (.cells (bv h).toArray 31 (0, 0))) := hS1
  clear hv1 hS1
  go_wp2_with (go_at_call 54; change Hid (Calls _ _ _ _ _))
  unfold Hid
  refine KN.mono ?_
  rintro _ u2 ⟨rr, rfl, ha⟩
  obtain ⟨ra, rc, rfl⟩ := ha.form
  rw [hrl]
  have H2 : Hid (Ans u1 u2 (.slice ra (2 * kn) rc) rl) := by show Ans _ _ _ _; rw [← hrl]; exact ha
  clear ha KN
  have zw : ∀ w : World, (zeroValue 117).run Tryz.prog w = .ok (.agg #[.nilIface, .pointer none, .nilFunc, .int .i64 0, .slice none 0 0]) w := fun w => (zero_of_info zero117).1 w
  have bw := built117 (.iface ty rv) (.pointer (some ⟨bk, 0, none⟩)) gfn (.slice ra (2 * kn) rc) rfl rfl rfl rfl
  obtain ⟨R2, eR2⟩ : ∃ R2, R2 = 2 * kn := ⟨_, rfl⟩
  rw [← eR2] at H2 bw hrl ⊢
  have HRL : Hid (rl.length = R2 ∧ R2 = 2 * kn ∧ rl = lst (2 * key.length) (nib key)) := ⟨hrl, eR2, er⟩
  clear eR2 hrl er
  have H3 : Hid (Wy (u2.alloc (.cells #[.iface ty rv, .pointer (some ⟨bk, 0, none⟩), gfn, .int .i64 0, .slice ra R2 rc] 117)) u2.heap.size (.iface ty rv) bk gfn 0 (.slice ra R2 rc) ∧ Below u2.heap.size u2 (u2.alloc (.cells #[.iface ty rv, .pointer (some ⟨bk, 0, none⟩), gfn, .int .i64 0, .slice ra R2 rc] 117)) ∧ (u2.alloc (.cells #[.iface ty rv, .pointer (some ⟨bk, 0, none⟩), gfn, .int .i64 0, .slice ra R2 rc] 117)).heap.size = u2.heap.size + 1) := ⟨⟨heap_alloc_new _ _⟩, below_alloc _ _, by simp⟩
  obtain ⟨u3, e3⟩ : ∃ u3, u3 = (u2.alloc (.cells #[.iface ty rv, .pointer (some ⟨bk, 0, none⟩), gfn, .int .i64 0, .slice ra R2 rc] 117)) := ⟨_, rfl⟩
  rw [← e3] at H3
  have HE3 : Hid (u3 = (u2.alloc (.cells #[.iface ty rv, .pointer (some ⟨bk, 0, none⟩), gfn, .int .i64 0, .slice ra R2 rc] 117))) := e3
  clear e3
  have b13 : Below u1.heap.size u1 u3 := ch H2.out.below H3.out.2.1
  have t03 : Turn F w u3 := H1.out.1.trans (Turn.of_below (F := F) b13) (fun _ q => Or.inl q)
  have s1 := H1.out.1.size
  have s2 := H2.out.below.size
  have s3 := H3.out.2.2
  have lim1 := H1.out.2.1.lim
  have KR := read_got (w := u3) H3.out.1 HSC.out (H1.out.2.1.keep b13) ((ground_turn HDD.out.2.2.2 H1.out.1 HKL.out).below b13) HDD.out.2.2.1 (G := G) (fun i q => ⟨(HGF.out i q).1, fun q2 => by
      rcases H1.out.2.2 i q2 with q3 | q3
      · exact (HGF.out i q).2.1 q3
      · have := (HGF.out i q).2.2; omega, by have := (HGF.out i q).2.2; omega, by have := (HGF.out i q).2.2; omega⟩) (fun q => by have := (lim1 _ q).2; omega) HDD.out.2.1 hnW HDD.out.1 0 (Nat.zero_le _) (R := R)
    (fun u k => HSR.out u F1 (t03.trans (Turn.of_below (F := F) k) (fun _ q => Or.inl q)) (fun i q => by have := (lim1 i q).2; have := k.size; omega))
  have gh3 : u3.rangeAt w.heap.size 0 (bv h) := rng_row ((b13.block _ (Array.getElem?_eq_some_iff.1 HS1.out).1).trans HS1.out)
  have H13 : Hid (Below u1.heap.size u1 u3 ∧ Turn F w u3 ∧ w.heap.size ≤ u1.heap.size ∧ u1.heap.size ≤ u2.heap.size ∧ u3.heap.size = u2.heap.size + 1) := ⟨b13, t03, s1, s2, s3⟩
  have hz := zv29
  clear b13 t03 s1 s2 s3 lim1 HS1
  go_wp2_with (first
    | refine Dg.wpList_bdL (by kernel_rfl) _ [(0, .tmp 31), (1, .tmp 32), (2, .tmp 33), (4, .tmp 35)] (by rfl) _ bw ?_
    | (refine wpList_stW (by kernel_rfl) _ _ (by rfl) #[.iface ty rv, .pointer (some ⟨bk, 0, none⟩), gfn, .int .i64 0, .slice ra R2 rc] _ (by rfl) (by rfl) (by simp [Value.oneCell']) (by rfl) (by rfl) ?_; rw [← HE3.out])
    | (refine wpList_ld24 (by kernel_rfl) _ (by rfl) w.heap.size 0 h HI.out.1 gh3 (by rfl) ?_)
    | (go_at_call 55; change Hid (Calls _ _ _ _ _)))
  unfold Hid
  refine KR.mono ?_
  rintro _ u4 ⟨z, rfl, no, t4, hu4⟩
  obtain ⟨va, vc, ev⟩ := own_slice no.v
  obtain ⟨VL, eVL⟩ : ∃ l, l = n.val.length := ⟨_, rfl⟩
  rw [← eVL] at ev
  have one := no.inn.one
  have H4 : Hid (Nout u3.heap.size u4 n z ∧ Turn (fun i => F1 i ∨ G i) u3 u4 ∧ ∃ v1 v2 F', Below u3.heap.size u3 v1 ∧ R v1 v2 ∧ Turn (fun i => F1 i ∨ (u3.heap.size ≤ i ∧ i < v1.heap.size)) v2 u4 ∧ Bk u4 bk bits (N + 1 + 1) F' ∧ (∀ i, F' i → F1 i ∨ v2.heap.size ≤ i) ∧ ∃ B, Nout B u4 n z ∧ (∀ i, F' i → i < B) ∧ v2.heap.size ≤ B) := ⟨no, t4, hu4⟩
  clear KR no t4 hu4 gh3 bw zw HE3
  go_wp2_with (refine wpList_st29 (by kernel_rfl) _ _ (by rfl) n nz z uz hnW nz_w one (by rfl) (by rfl) ?_)
  obtain ⟨u5, e5⟩ : ∃ u5, u5 = u4.alloc (.cells (nc n z).toArray 110) := ⟨_, rfl⟩
  have H5 : Hid (Below u4.heap.size u4 u5 ∧ Nb u5 u4.heap.size n z ∧ u5.heap.size = u4.heap.size + 1) := by rw [e5]; exact ⟨below_alloc _ _, nb_new hnW _ _, by simp⟩
  rw [← e5]
  clear e5
  have s1 := H13.out.2.2.1
  have s2 := H13.out.2.2.2.1
  have s3 := H13.out.2.2.2.2
  have lim1 := H1.out.2.1.lim
  have w5 : Wy u5 u2.heap.size (.iface ty rv) bk gfn 0 (.slice ra R2 rc) := (H3.out.1.turn H4.out.2.1 (fun q => by
      rcases q with q | q
      · have := (lim1 _ q).2; omega
      · have := (HGF.out _ q).2.2; omega)).keep H5.out.1
  have r5 : Vb u5 (.slice ra rl.length rc) rl := by
    rw [HRL.out.1]
    refine Vb.keep ?_ H5.out.1
    have := H2.out.vb.keep H3.out.2.1
    exact vb_turn H2.out H3.out.2.1 H4.out.2.1 (fun i h1 h2 q => by
      rcases q with q | q
      · have := (lim1 _ q).2; omega
      · have := (HGF.out _ q).2.2; omega)
  have n5 : Nin u5 n z := (H4.out.1.inn).keep H5.out.1
  rw [← HRL.out.1] at w5
  have HM5 : Hid (∀ u, Below u5.heap.size u5 u → Calls Tryz.prog 56 #[.pointer (some ⟨u2.heap.size, 0, none⟩), .agg (nc n z).toArray] u fun e w' => e = .returned (.bool true) ∧ Below u.heap.size u w') := fun u k => by
    rw [← hms]
    exact mayStand_any (w5.keep k) (n5.keep k) (by omega) (by have := mst_le hms; omega)
  have HP5 : Hid (∀ u, Below u5.heap.size u5 u → Calls Tryz.prog 57 #[.pointer (some ⟨u2.heap.size, 0, none⟩), .agg (nc n z).toArray] u fun e w' => e = .returned (.tuple #[.slice none 0 0, .agg (rcs rz (.slice none 0 0)).toArray]) ∧ Turn (fun i => i = u2.heap.size) u w') := fun u k => by
    refine (pass_off (w5.keep k) (r5.keep k) (n5.keep k) (by rw [HRL.out.2.2]; exact hp)).mono ?_
    rintro _ w' ⟨rfl, q⟩
    exact ⟨rfl, Turn.of_below q⟩
  clear hp ev
  have HN5 : Hid (Nb u5 u4.heap.size n z) := H5.out.2.1
  clear w5 r5 n5
  go_loopg [15] 0 (fun g e wr => g = 0 ∧ e = .int .i64 0 ∧ wr = u5)
  case atStart => exact ⟨rfl, rfl, rfl⟩
  case round =>
    obtain ⟨rfl, rfl, rfl⟩ := hrel
    have nb5 := HN5.out
    have hz6 := zv26
    go_wp2_with (first
      | refine wpList_ld29 (by kernel_rfl) _ (by rfl) _ _ _ hnW nb5 (by rfl) ?_
      | refine wpList_ld29 (by kernel_rfl) _ (by rfl) _ _ _ hnW nb6 (by rfl) ?_
      | (go_at_call 56; go_loud (refine (HM5.out _ (Below.refl _ _)).mono ?_; rintro _ u6 ⟨rfl, b6⟩; have nb6 := nb5.keep b6; have H6 : Hid (Below wr.heap.size wr u6) := b6; clear b6))
      | (go_at_call 57; go_loud (refine (HP5.out _ H6.out).mono ?_; rintro _ u7 ⟨rfl, t7⟩; have H7 : Hid (Turn (fun i => i = u2.heap.size) u6 u7) := t7; clear t7))
      | ((refine wpList_st26 (by kernel_rfl) _ _ (by rfl) rz rz (.slice none 0 0) (.slice none 0 0) rz_w.1 rz_w.1 rfl (by rfl) (by rfl) ?_; have c8 := (rng_ref rz_w.1 (rng_new u7 (rcs rz (.slice none 0 0)) 107)).1)))
    go_ret3
    have t48 : Turn (fun i => i = u2.heap.size) u4 (u7.alloc (.cells (rcs rz (.slice none 0 0)).toArray 107)) := ((Turn.of_below (ch H5.out.1 H6.out)).trans H7.out (fun _ q => Or.inl q)).trans (Turn.of_below (F := fun i => i = u2.heap.size) (below_alloc u7 _)) (fun _ q => Or.inl q)
    have s4 := H4.out.2.1.size
    have s0 := H1.out.1.size
    obtain ⟨v1, v2, F4, y1, y2, y3, q1, q2, B4, nB, fB, vB⟩ := H4.out.2.2
    have y0 := y1.size
    have F1w : ∀ i, F1 i → F i ∨ w.heap.size ≤ i := H1.out.2.2
    refine ⟨rfl, ((H13.out.2.1.mono (fun i q => Or.inl (Or.inl q))).trans H4.out.2.1 (fun i q => ?_)).trans t48 (fun i q => Or.inr (by omega)), v1, v2, F4, H13.out.2.1.trans (Turn.of_below (F := F) y1) (fun _ q => Or.inl q), y2, (y3.mono (fun i q => ?_)).trans t48 (fun i q => Or.inl (Or.inr (by omega))), q1.turn t48 (fun i q e => ?_), fun i q => ?_⟩
    · rcases q with q | q
      · rcases F1w i q with q3 | q3
        · exact Or.inl (Or.inl q3)
        · exact Or.inr q3
      · exact Or.inl (Or.inr q)
    · rcases q with q | q
      · rcases F1w i q with q3 | q3
        · exact Or.inl (Or.inl q3)
        · exact Or.inl (Or.inr ⟨q3, by have := (lim1 i q).2; omega⟩)
      · exact Or.inl (Or.inr ⟨by omega, q.2⟩)
    · subst e
      rcases q2 _ q with q | q
      · have := (lim1 _ q).2; omega
      · have := HRS.out v1 v2 y2; omega
    · rcases q2 _ q with q | q
      · rcases F1w i q with q3 | q3
        · exact Or.inl q3
        · exact Or.inr (Or.inl ⟨q3, by have := (lim1 i q).2; omega⟩)
      · exact Or.inr (Or.inr q)
end Go.Proofs.YtepeolbbplodfaaGreatDoor

/-
  Get and Trail, by goDown.
-/
namespace Go.Proofs.YtepeolbbplodfaaGreatDoor
open Go.RowKit Go.Maps

set_option maxRecDepth 100000 in
set_option maxHeartbeats 800000 in
theorem get_of (w : World) {h : List Nat} (hh : IsH h) (sv b kv : Value) {P : World → Value → Value → Value → World → Prop}
    (hc : ∀ W, Below w.heap.size w W → Calls Tryz.prog 33 #[sv, b, .agg (bv h).toArray, kv, gfn] W fun e w' => ∃ v f x, e = .returned (.tuple #[v, f, x]) ∧ P W v f x w') :
    Calls Tryz.prog 10 #[sv, b, .agg (bv h).toArray, kv] w fun e w' => ∃ v f x, e = .returned (.tuple #[v, f, x]) ∧ ∃ W, Below w.heap.size w W ∧ P W v f x w' := by
  have on := all_bv h
  have HH : Hid (IsH h) := hh
  have HC : Hid (∀ W, Below w.heap.size w W → Calls Tryz.prog 33 #[sv, b, .agg (bv h).toArray, kv, gfn] W fun e w' => ∃ v f x, e = .returned (.tuple #[v, f, x]) ∧ P W v f x w') := hc
  have g0 := rng_new w (bv h) 31
  clear hc hh
  go_enter Tryz.func10, Tryz.ntmps10
  go_wp2_with (first
    | refine wpList_ld24 (by kernel_rfl) _ (by rfl) w.heap.size 0 h HH.out.1 g0 (by rfl) ?_
    | (go_at_call 33; go_loud (refine (HC.out _ (below_alloc w (.cells (bv h).toArray 31))).mono ?_; rintro _ w1 ⟨v, f, x, rfl, hP⟩; have H1 : Hid (P (w.alloc (.cells (bv h).toArray 31)) v f x w1) := hP; clear hP g0)))
  go_ret3
  exact ⟨v, f, x, rfl, _, below_alloc _ _, H1.out⟩
set_option maxRecDepth 100000 in
set_option maxHeartbeats 800000 in
theorem trail_err (w : World) {h : List Nat} (hh : IsH h) (sv b kv : Value) (x : Int) (hx : x ≠ 0)
    (hc : ∀ W fn, Below w.heap.size w W → Calls Tryz.prog 33 #[sv, b, .agg (bv h).toArray, kv, fn] W fun e w' => e = .returned (.tuple #[.slice none 0 0, .bool false, .int .i64 x]) ∧ Below W.heap.size W w') :
    Calls Tryz.prog 11 #[sv, b, .agg (bv h).toArray, kv] w fun e w' => e = .returned (.tuple #[.slice none 0 0, .int .i64 x]) ∧ Below w.heap.size w w' := by
  have on := all_bv h
  have HH : Hid (IsH h) := hh
  have HC : Hid (∀ W fn, Below w.heap.size w W → Calls Tryz.prog 33 #[sv, b, .agg (bv h).toArray, kv, fn] W fun e w' => e = .returned (.tuple #[.slice none 0 0, .bool false, .int .i64 x]) ∧ Below W.heap.size W w') := hc
  have g0 : ((w.alloc (.cells (bv h).toArray 31)).alloc (.cells #[.slice none 0 0] 27)).rangeAt w.heap.size 0 (bv h) := rng_row ((heap_alloc_old _ _ (by simp)).trans (heap_alloc_new w (.cells (bv h).toArray 31)))
  clear hc hh
  go_enter Tryz.func11, Tryz.ntmps11
  go_wp2_with (first
    | refine wpList_ld24 (by kernel_rfl) _ (by rfl) w.heap.size 0 h HH.out.1 g0 (by rfl) ?_
    | (go_at_call 33; go_loud (refine (HC.out _ _ (ch (below_alloc w (.cells (bv h).toArray 31)) (below_alloc _ _))).mono ?_; rintro _ w1 ⟨rfl, hb⟩; have H1 : Hid (Below w.heap.size w w1) := ch (ch (below_alloc w (.cells (bv h).toArray 31)) (below_alloc _ _)) hb; clear hb g0)))
  go_ret2
  exact ⟨rfl, H1.out⟩
set_option maxRecDepth 100000 in
set_option maxHeartbeats 800000 in
theorem trail_none (w : World) {h : List Nat} (hh : IsH h) (sv b kv : Value) {F : Nat → Prop} (hF : ∀ i, F i → i < w.heap.size) {P : World → World → Prop}
    (hc : ∀ W fn, Below w.heap.size w W → Calls Tryz.prog 33 #[sv, b, .agg (bv h).toArray, kv, fn] W fun e w' => e = .returned (.tuple #[.slice none 0 0, .bool false, .int .i64 0]) ∧ Turn F W w' ∧ P W w') :
    Calls Tryz.prog 11 #[sv, b, .agg (bv h).toArray, kv] w fun e w' => e = .returned (.tuple #[.slice none 0 0, .int .i64 0]) ∧ ∃ W, Below w.heap.size w W ∧ Turn F W w' ∧ P W w' := by
  have on := all_bv h
  have HH : Hid (IsH h) := hh
  have HC : Hid (∀ W fn, Below w.heap.size w W → Calls Tryz.prog 33 #[sv, b, .agg (bv h).toArray, kv, fn] W fun e w' => e = .returned (.tuple #[.slice none 0 0, .bool false, .int .i64 0]) ∧ Turn F W w' ∧ P W w') := hc
  have g0 : ((w.alloc (.cells (bv h).toArray 31)).alloc (.cells #[.slice none 0 0] 27)).rangeAt w.heap.size 0 (bv h) := rng_row ((heap_alloc_old _ _ (by simp)).trans (heap_alloc_new w (.cells (bv h).toArray 31)))
  have HG : Hid (((w.alloc (.cells (bv h).toArray 31)).alloc (.cells #[.slice none 0 0] 27)).cell? ⟨w.heap.size + 1, 0, none⟩ = some (.slice none 0 0) ∧ w.heap.size + 1 < ((w.alloc (.cells (bv h).toArray 31)).alloc (.cells #[.slice none 0 0] 27)).heap.size) := ⟨by simp, by simp⟩
  have HF : Hid (∀ i, F i → i < w.heap.size) := hF
  clear hc hh hF
  go_enter Tryz.func11, Tryz.ntmps11
  go_wp2_with (first
    | refine wpList_ld24 (by kernel_rfl) _ (by rfl) w.heap.size 0 h HH.out.1 g0 (by rfl) ?_
    | (go_at_call 33; go_loud (refine (HC.out _ _ (ch (below_alloc w (.cells (bv h).toArray 31)) (below_alloc _ _))).mono ?_; rintro _ w1 ⟨rfl, ht, hP⟩; have H1 : Hid (Turn F ((w.alloc (.cells (bv h).toArray 31)).alloc (.cells #[.slice none 0 0] 27)) w1 ∧ P ((w.alloc (.cells (bv h).toArray 31)).alloc (.cells #[.slice none 0 0] 27)) w1) := ⟨ht, hP⟩; have c1 := (ht.cell (q := ⟨w.heap.size + 1, 0, none⟩) HG.out.2 (fun q => by have h9 : w.heap.size + 1 < w.heap.size := HF.out _ q; omega)).trans HG.out.1; clear ht hP g0)))
  go_ret2
  exact ⟨rfl, _, ch (below_alloc w (.cells (bv h).toArray 31)) (below_alloc _ _), H1.out.1, H1.out.2⟩
end Go.Proofs.YtepeolbbplodfaaGreatDoor

/-
  Root, Nodes, Blobs. (Written by gen_xg.py.)
-/
namespace Go.Proofs.YtepeolbbplodfaaGreatDoor
open Go.RowKit Go.Maps

theorem wpList_stHn {ops : Array Oper} {rest : List Oper} {op : Oper} {a : Act} {w : World} {Q : Exit → Act → World → Prop} (hw : Region.wanted op (yielded ops a.tmps) = true) (x y : Operand) (ho : op.op = .store 31 x y) (s z : List Nat) (hs : IsH s) (hz : IsH z)
    (hx : a.eval x = .pointer (some ⟨w.heap.size, 0, none⟩)) (hy : a.eval y = .agg (bv s).toArray) (h : wpList Tryz.prog ops Q rest (a.put op.dst undef) (w.alloc (.cells (bv s).toArray 31))) : wpList Tryz.prog ops Q (op :: rest) a (w.alloc (.cells (bv z).toArray 31)) := by
  refine wpList_g hw (wp_store_row 31 x y ho w.heap.size (bv s).toArray hx hy 31 (bv z).toArray (heap_alloc_new _ _) (by rw [List.size_toArray]; exact info_bv hs.1) (by rw [List.size_toArray, List.size_toArray, bv_len, bv_len, hs.1, hz.1]) (all_bv s) ?_)
  rw [World.setRow_alloc_new]
  exact h
set_option maxRecDepth 100000 in
set_option maxHeartbeats 1600000 in
theorem root_of {w : World} {k : List Nat} (hk : IsH k) (bits : Nat) (ev : Value) (hc : ∀ W, Below w.heap.size w W → Calls Tryz.prog 32 #[.int .i64 (bits : Nat), ev] W fun e w' => ∃ p d, e = .returned (.tuple #[.agg (bv k).toArray, p, d]) ∧ Below W.heap.size W w') :
    Calls Tryz.prog 9 #[.int .i64 (bits : Nat), ev] w fun e w' => e = .returned (.agg (bv k).toArray) ∧ Below w.heap.size w w' := by
  have hz := zvH
  obtain ⟨zz, ez⟩ : ∃ z, z = z32 := ⟨_, rfl⟩
  have hzz : IsH zz := by rw [ez]; exact z32_isH
  rw [← ez] at hz
  have K := hc _ (below_alloc w (.cells (bv zz).toArray 31))
  have HG : Hid ((w.alloc (.cells (bv zz).toArray 31)).heap[w.heap.size]? = some (.cells (bv zz).toArray 31 (0, 0))) := heap_alloc_new _ _
  clear hc ez
  go_enter Tryz.func9, Tryz.ntmps9
  go_wp2_with (first
    | (go_at_call 32; go_loud (refine K.mono ?_; rintro _ u1 ⟨p, d, rfl, b1⟩; have B1 := ch b1 (below_alloc u1 (.cells (bv k).toArray 31)); have g1 : (u1.alloc (.cells (bv k).toArray 31)).heap[w.heap.size]? = some (.cells (bv zz).toArray 31 (0, 0)) := (B1.block _ (Array.getElem?_eq_some_iff.1 HG.out).1).trans HG.out; have r1 := rng_new u1 (bv k) 31; have H1 : Hid (Below w.heap.size w (u1.alloc (.cells (bv k).toArray 31))) := ch (below_alloc w (.cells (bv zz).toArray 31)) B1; clear b1 B1 K))
    | refine wpList_stHn (by kernel_rfl) _ _ (by rfl) k zz hk hzz (by rfl) (by rfl) ?_
    | refine wpList_ld24 (by kernel_rfl) _ (by rfl) u1.heap.size 0 k hk.1 r1 (by rfl) ?_
    | refine wpList_stH (by kernel_rfl) _ _ (by rfl) w.heap.size k zz hk hzz g1 (by rfl) (by rfl) ?_)
  have hr3 := setRow_heap _ w.heap.size _ (bv k).toArray _ _ g1
  refine bodyPost_ret (resH rfl _ _ w.heap.size k hk (rng_row hr3) rfl) rfl ?_
  exact ⟨rfl, Dg.below_setRow H1.out (Nat.le_refl _) _⟩
set_option maxRecDepth 100000 in
set_option maxHeartbeats 1600000 in
theorem nodes_of {w : World} {k : List Nat} (hk : IsH k) (bits : Nat) (ev : Value) {R : Value → World → Prop} (hc : Calls Tryz.prog 32 #[.int .i64 (bits : Nat), ev] w fun e w' => ∃ tb ba bn bc d, e = .returned (.tuple #[.agg (bv k).toArray, .pointer (some ⟨tb, 0, none⟩), d]) ∧ Tr w' tb bits (.slice ba bn bc) 1 0 0 ∧ R (.slice ba bn bc) w') :
    Calls Tryz.prog 15 #[.int .i64 (bits : Nat), ev] w fun e w' => ∃ ba bn bc, e = .returned (.slice ba bn bc) ∧ ∃ u, R (.slice ba bn bc) u ∧ Below u.heap.size u w' := by
  have hz := zvH
  obtain ⟨zz, ez⟩ : ∃ z, z = z32 := ⟨_, rfl⟩
  have hzz : IsH zz := by rw [ez]; exact z32_isH
  rw [← ez] at hz
  clear ez
  go_enter Tryz.func15, Tryz.ntmps15
  go_wp2_with (first
    | (go_at_call 32; go_loud (refine hc.mono ?_; rintro _ u1 ⟨tb, ba, bn, bc, d, rfl, tr, hR⟩; have c1 := (tr.keep (below_alloc u1 (.cells (bv k).toArray 31))).at_.2.1; have H1 : Hid (R (.slice ba bn bc) u1) := hR; clear tr hR hc))
    | refine wpList_stHn (by kernel_rfl) _ _ (by rfl) k zz hk hzz (by rfl) (by rfl) ?_)
  go_ret
  exact ⟨_, _, _, rfl, u1, H1.out, below_alloc _ _⟩
theorem tdc_len {t : Td} (h : t.key.length = 32) (v : Value) : (tdc t v).length = 34 := by simp [tdc, bv_len, h]
theorem tdc_one {t : Td} {v : Value} (h : v.oneCell' = true) : ∀ u ∈ tdc t v, u.oneCell' = true := fun u hu => by
  rcases List.mem_append.1 hu with q | q
  · exact bv_one _ u q
  · rcases List.mem_cons.1 q with q | q
    · rw [q]; exact h
    · rw [List.mem_singleton.1 q]; rfl
theorem built56 {k s : List Nat} (hk : k.length = 32) (a : Option Addr) (n c : Nat) : Tryz.prog.built 56 [(0, .agg (bv k).toArray), (1, .slice a n c)] = some (tdc ⟨k, s, 0⟩ (.slice a n c)).toArray := by
  have f0 : ∀ parts, Tryz.prog.built 56 parts = Instr.fill (fun i => (#[(0, 32), (32, 1), (33, 1)] : Array (Nat × Nat))[i]?) (bv z32 ++ [Value.slice none 0 0, Value.int .i64 0]).toArray parts := fun parts => by kernel_rfl
  rw [f0, Z.fill_step (off := 0) (size := 32) rfl (by simp [Value.cells, bv_len, hk]) (by simp [bv_len, z32_len])]
  rw [show (Value.agg (bv k).toArray).cells = (bv k).toArray from rfl]
  have e := Z.fold_list 0 [] (bv z32) (bv k) [Value.slice none 0 0, Value.int .i64 0] rfl (by rw [bv_len, bv_len, hk, z32_len])
  rw [List.nil_append, List.nil_append] at e
  rw [show (fun (cs : Array Value) (x : Value × Nat) => match x with | (c, j) => cs.setIfInBounds (0 + j) c) = (fun (cs : Array Value) (p : Value × Nat) => cs.setIfInBounds (0 + p.2) p.1) from rfl, e]
  rw [Z.fill_step (off := 32) (size := 1) rfl rfl (by simp [bv_len, hk])]
  have e2 := Z.fold_list 32 (bv k) [Value.slice none 0 0] [.slice a n c] [Value.int .i64 0] (by rw [bv_len, hk]) rfl
  exact congrArg some e2
set_option maxRecDepth 100000 in
set_option maxHeartbeats 3200000 in
theorem blobs_one {w : World} {bb bc : Nat} {k s : List Nat} {sa : Option Addr} {sn sc : Nat} (hk : IsH k) (hr : w.rangeAt bb 0 (bbc k (.slice sa sn sc))) :
    Calls Tryz.prog 14 #[.slice (some ⟨bb, 0, none⟩) 1 bc] w fun e w' => ∃ v, e = .returned v ∧ w'.ownsRow w.heap.size 56 34 v 1 (tdc ⟨k, s, 0⟩ (.slice sa sn sc)) ∧ Below w.heap.size w w' := by
  have r0 : w.rangeAt bb 0 (bv k) := rng_left hr
  have r1 : w.cell? ⟨bb, 0 + 0 * 33 + 32, none⟩ = some (.slice sa sn sc) := by
    have := rng_right hr 0 _ rfl
    rw [bv_len, hk.1] at this
    exact this
  have HS : Hid (w.rangeAt bb 0 (bv k) ∧ w.cell? ⟨bb, 0 + 0 * 33 + 32, none⟩ = some (.slice sa sn sc) ∧ IsH k) := ⟨r0, r1, hk⟩
  have bt := built56 (s := s) hk.1 sa sn sc
  have hk1 := hk.1
  clear r0 r1 hr hk
  go_enter Tryz.func14, Tryz.ntmps14
  go_wp2_with fail
  go_loopg [3, 4] 1 (fun g l i wr => (g = 1 ∧ l = .slice none 0 0 ∧ i = .int .i64 0 ∧ wr = w) ∨ (g = 0 ∧ i = .int .i64 1 ∧ wr.ownsRow w.heap.size 56 34 l 1 (tdc ⟨k, s, 0⟩ (.slice sa sn sc)) ∧ Below w.heap.size w wr))
  case atStart => exact Or.inl ⟨rfl, rfl, rfl, rfl⟩
  case round =>
    rcases hrel with ⟨rfl, rfl, rfl, hw⟩ | ⟨rfl, rfl, ow, bl⟩
    · have hw2 := hw.symm
      subst hw2
      go_wp2_with fail
      refine wp_region_held_drew (S := fun u => u.rangeAt bb 0 (bv k) ∧ u.cell? ⟨bb, 0 + 0 * 33 + 32, none⟩ = some (.slice sa sn sc)) (by kernel_rfl) (by exact ⟨HS.out.1, HS.out.2.1⟩) ?_
      intro hS
      change wpAnyH _ _ _ _ _ 15 _ _ _
      refine wpAnyH_take (i := 0) (v := (.slice none 0 0)) (by simp only [List.getElem?_toArray, List.getElem?_cons_zero]; rfl) (by kernel_rfl) (by kernel_rfl) (by kernel_rfl) (by exact fun _ _ _ h => h) (Z.y_move (by kernel_rfl) _ rfl _ rfl) hS ?_
      try simp only [Act.put, List.setIfInBounds_toArray, List.set_cons_zero, List.set_cons_succ]
      refine wpAnyH_take (i := 1) (v := (.slice (some ⟨bb, 0, none⟩) 1 bc)) (by simp only [List.getElem?_toArray, List.getElem?_cons_zero, List.getElem?_cons_succ]; rfl) (by kernel_rfl) (by kernel_rfl) (by kernel_rfl) (by exact fun _ _ _ h => h) (Z.y_move (by kernel_rfl) _ rfl _ rfl) hS ?_
      try simp only [Act.put, List.setIfInBounds_toArray, List.set_cons_zero, List.set_cons_succ]
      refine wpAnyH_take (i := 2) (v := (.int .i64 0)) (by simp only [List.getElem?_toArray, List.getElem?_cons_zero, List.getElem?_cons_succ]; rfl) (by kernel_rfl) (by kernel_rfl) (by kernel_rfl) (by exact fun _ _ _ h => h) (Z.y_move (by kernel_rfl) _ rfl _ rfl) hS ?_
      try simp only [Act.put, List.setIfInBounds_toArray, List.set_cons_zero, List.set_cons_succ]
      refine wpAnyH_take (i := 3) (v := (.pointer (some ⟨bb, 0 + 0 * 33, none⟩))) (by simp only [List.getElem?_toArray, List.getElem?_cons_zero, List.getElem?_cons_succ]; rfl) (by kernel_rfl) (by kernel_rfl) (by kernel_rfl) (by exact fun _ _ _ h => h) (Z.y_i_blobs (by kernel_rfl) _ _ rfl bb 0 1 bc 0 rfl rfl (by decide)) hS ?_
      try simp only [Act.put, List.setIfInBounds_toArray, List.set_cons_zero, List.set_cons_succ]
      refine wpAnyH_take (i := 4) (v := (.pointer (some ⟨bb, 0 + 0 * 33, none⟩))) (by simp only [List.getElem?_toArray, List.getElem?_cons_zero, List.getElem?_cons_succ]; rfl) (by kernel_rfl) (by kernel_rfl) (by kernel_rfl) (by exact fun _ _ _ h => h) (Z.y_f_Blb0 (by kernel_rfl) _ rfl _ _ rfl) hS ?_
      try simp only [Act.put, List.setIfInBounds_toArray, List.set_cons_zero, List.set_cons_succ]
      refine wpAnyH_take (i := 5) (v := (.agg (bv k).toArray)) (by simp only [List.getElem?_toArray, List.getElem?_cons_zero, List.getElem?_cons_succ]; rfl) (by kernel_rfl) (by kernel_rfl) (by kernel_rfl) (by exact fun _ _ _ h => h) (Z.y_s_Hash (by kernel_rfl) _ rfl _ _ rfl k hk1 (fun u hs => hs.1)) hS ?_
      try simp only [Act.put, List.setIfInBounds_toArray, List.set_cons_zero, List.set_cons_succ]
      refine wpAnyH_take (i := 6) (v := (.slice (some ⟨bb, 0, none⟩) 1 bc)) (by simp only [List.getElem?_toArray, List.getElem?_cons_zero, List.getElem?_cons_succ]; rfl) (by kernel_rfl) (by kernel_rfl) (by kernel_rfl) (by exact fun _ _ _ h => h) (Z.y_move (by kernel_rfl) _ rfl _ rfl) hS ?_
      try simp only [Act.put, List.setIfInBounds_toArray, List.set_cons_zero, List.set_cons_succ]
      refine wpAnyH_take (i := 7) (v := (.int .i64 0)) (by simp only [List.getElem?_toArray, List.getElem?_cons_zero, List.getElem?_cons_succ]; rfl) (by kernel_rfl) (by kernel_rfl) (by kernel_rfl) (by exact fun _ _ _ h => h) (Z.y_move (by kernel_rfl) _ rfl _ rfl) hS ?_
      try simp only [Act.put, List.setIfInBounds_toArray, List.set_cons_zero, List.set_cons_succ]
      refine wpAnyH_take (i := 8) (v := (.pointer (some ⟨bb, 0 + 0 * 33, none⟩))) (by simp only [List.getElem?_toArray, List.getElem?_cons_zero, List.getElem?_cons_succ]; rfl) (by kernel_rfl) (by kernel_rfl) (by kernel_rfl) (by exact fun _ _ _ h => h) (Z.y_i_blobs (by kernel_rfl) _ _ rfl bb 0 1 bc 0 rfl rfl (by decide)) hS ?_
      try simp only [Act.put, List.setIfInBounds_toArray, List.set_cons_zero, List.set_cons_succ]
      refine wpAnyH_take (i := 9) (v := (.pointer (some ⟨bb, 0 + 0 * 33 + 32, none⟩))) (by simp only [List.getElem?_toArray, List.getElem?_cons_zero, List.getElem?_cons_succ]; rfl) (by kernel_rfl) (by kernel_rfl) (by kernel_rfl) (by exact fun _ _ _ h => h) (Z.y_f_Blb1 (by kernel_rfl) _ rfl _ _ rfl) hS ?_
      try simp only [Act.put, List.setIfInBounds_toArray, List.set_cons_zero, List.set_cons_succ]
      refine wpAnyH_take (i := 10) (v := (.slice sa sn sc)) (by simp only [List.getElem?_toArray, List.getElem?_cons_zero, List.getElem?_cons_succ]; rfl) (by kernel_rfl) (by kernel_rfl) (by kernel_rfl) (by exact fun _ _ _ h => h) (Z.y_l_byt (by kernel_rfl) _ rfl _ _ rfl _ (fun u hs => hs.2)) hS ?_
      try simp only [Act.put, List.setIfInBounds_toArray, List.set_cons_zero, List.set_cons_succ]
      refine wpAnyH_take (i := 11) (v := (.agg (tdc ⟨k, s, 0⟩ (.slice sa sn sc)).toArray)) (by simp only [List.getElem?_toArray, List.getElem?_cons_zero, List.getElem?_cons_succ]; rfl) (by kernel_rfl) (by kernel_rfl) (by kernel_rfl) (by exact fun _ _ _ h => h) (Z.y_bd (by kernel_rfl) _ _ rfl _ bt) hS ?_
      try simp only [Act.put, List.setIfInBounds_toArray, List.set_cons_zero, List.set_cons_succ]
      refine wpAnyH_ready (rs := [12]) (by kernel_rfl) (by simp) ?_
      refine AllReadyH.cons (by simp only [List.getElem?_toArray, List.getElem?_cons_zero, List.getElem?_cons_succ]; rfl) (fun K hK => ?_) AllReadyH.nil
      refine Z.r_one_tolds (by kernel_rfl) _ (by rfl) (.agg (tdc ⟨k, s, 0⟩ (.slice sa sn sc)).toArray) (tdc ⟨k, s, 0⟩ (.slice sa sn sc)) (by rfl) rfl (tdc_len hk1 _) ?_
      have hS2 : (w.drew.alloc (.cells (tdc ⟨k, s, 0⟩ (.slice sa sn sc)).toArray 56)).rangeAt bb 0 (bv k) ∧ (w.drew.alloc (.cells (tdc ⟨k, s, 0⟩ (.slice sa sn sc)).toArray 56)).cell? ⟨bb, 0 + 0 * 33 + 32, none⟩ = some (.slice sa sn sc) := ⟨rng_keep hS.1 (below_alloc _ _), ((below_alloc w.drew _).cell (World.block_lt_of_cell? _ _ hS.2)).trans hS.2⟩
      refine hK.out _ _ hS2 (fun hS => ?_)
      clear hS2
      clear hK K
      try simp only [Act.put, List.setIfInBounds_toArray, List.set_cons_zero, List.set_cons_succ]
      refine wpAnyH_ready (rs := [13]) (by kernel_rfl) (by simp) ?_
      refine AllReadyH.cons (by simp only [List.getElem?_toArray, List.getElem?_cons_zero, List.getElem?_cons_succ]; rfl) (fun K hK => ?_) AllReadyH.nil
      refine Z.r_app_tolds w.heap.size (by kernel_rfl) _ _ (by rfl) (.slice none 0 0) 0 [] (by rfl) ⟨rfl, Or.inl ⟨rfl, rfl⟩⟩ w.drew.heap.size (tdc ⟨k, s, 0⟩ (.slice sa sn sc)) (by rfl) (tdc_len hk1 _) (rng_new w.drew _ _) (tdc_one rfl) (by decide) (by rw [World.size_alloc]; exact Nat.le_succ _) ?_
      intro v5 w5 own5 gr5 _
      rw [List.nil_append, Nat.zero_add] at own5
      obtain ⟨xa, xc, ex⟩ := own_slice own5
      subst ex
      have b5 : Below (w.drew.alloc (.cells (tdc ⟨k, s, 0⟩ (.slice sa sn sc)).toArray 56)).heap.size (w.drew.alloc (.cells (tdc ⟨k, s, 0⟩ (.slice sa sn sc)).toArray 56)) w5 := grown_none gr5
      have hS3 : w5.rangeAt bb 0 (bv k) ∧ w5.cell? ⟨bb, 0 + 0 * 33 + 32, none⟩ = some (.slice sa sn sc) := ⟨rng_keep hS.1 b5, (b5.cell (World.block_lt_of_cell? _ _ hS.2)).trans hS.2⟩
      have H5 : Hid (w5.ownsRow w.heap.size 56 34 (.slice xa 1 xc) 1 (tdc ⟨k, s, 0⟩ (.slice sa sn sc)) ∧ Below w.heap.size w w5) := ⟨own5, ((Below.refl w.heap.size w).drew.alloc (Nat.le_refl _) _).trans (b5.mono (by rw [World.size_alloc]; exact Nat.le_succ _))⟩
      clear own5 gr5 b5
      refine hK.out _ _ hS3 (fun hS => ?_)
      clear hS3
      clear hK K
      try simp only [Act.put, List.setIfInBounds_toArray, List.set_cons_zero, List.set_cons_succ]
      refine wpAnyH_take (i := 14) (v := (.slice xa 1 xc)) (by simp only [List.getElem?_toArray, List.getElem?_cons_zero, List.getElem?_cons_succ]; rfl) (by kernel_rfl) (by kernel_rfl) (by kernel_rfl) (by exact fun _ _ _ h => h) (Z.y_assign (by kernel_rfl) _ rfl _ rfl) hS ?_
      try simp only [Act.put, List.setIfInBounds_toArray, List.set_cons_zero, List.set_cons_succ]
      refine wpAnyH_done (by kernel_rfl) ?_ _
      clear hS
      go_wp2_with fail
      go_roundg 0
      case measure => decide
      case rel => exact Or.inr ⟨rfl, by go_num, H5.out.1, H5.out.2⟩
    · go_wp2_with fail
      go_ret
      exact ⟨_, rfl, ow, bl⟩
end Go.Proofs.YtepeolbbplodfaaGreatDoor
