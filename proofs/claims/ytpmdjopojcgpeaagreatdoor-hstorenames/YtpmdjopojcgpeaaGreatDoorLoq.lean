import Derived.Test.YtpmdjopojcgpeaaGreatDoorSeq
import Derived.Deep.CutBlock
import Derived.Deep.DeepCutAuto
/-
  media.Load of nothing, with choices that may be.
-/
namespace Go.Proofs.YtpmdjopojcgpeaaGreatDoor
open Go.RowKit

/-- A DEVICE THAT WAS JUST MADE. -/
structure New0 (w u : World) (g m1 m2 m3 : Nat) (cu : Value) (sl rm : Int) (C : List Cho) : Prop where
  db : Db u g (dv0 sl rm m1 m2 m3 cu)
  maps : Mps w u [m1, m2, m3]
  cho : Chu w u [m1, m2, m3, g] cu C
  gm : g ≠ m1 ∧ g ≠ m2 ∧ g ≠ m3
  ge : w.heap.size ≤ g
theorem New0.keep {w u u' : World} {g m1 m2 m3 : Nat} {cu : Value} {sl rm : Int} {C : List Cho} (h : New0 w u g m1 m2 m3 cu sl rm C) (k : Below u.heap.size u u') : New0 w u' g m1 m2 m3 cu sl rm C :=
  ⟨h.db.keep k, h.maps.keep k, h.cho.keep k, h.gm, h.ge⟩
theorem own_blk {u : World} {B : Nat} {cu : Value} {C : List Cho} (h : Cho3 u B cu C) : ∀ g, cu.ownBlock = some g → B ≤ g ∧ g < u.heap.size := fun g hg => by
  rcases h.2 with ⟨rfl, h0⟩ | ⟨g', cap, cur, rfl, hB, hg', _⟩
  · simp [Value.ownBlock] at hg
  · simp [Value.ownBlock] at hg
    subst hg
    exact ⟨hB, (Array.getElem?_eq_some_iff.1 hg').1⟩
theorem own_low {u : World} {B B' : Nat} {cu : Value} {C : List Cho} (h : Cho3 u B cu C) (k : B' ≤ B) : Cho3 u B' cu C := by
  refine ⟨h.1, ?_⟩
  rcases h.2 with ⟨e, h0⟩ | ⟨g', cap, cur, e, hB, r⟩
  · exact Or.inl ⟨e, h0⟩
  · exact Or.inr ⟨g', cap, cur, e, Nat.le_trans k hB, r⟩
theorem Chu.fresh {w u u' : World} {ms : List Nat} {cu : Value} {C : List Cho} (hM : Mps w u ms) (h : Cho3 u' u.heap.size cu C) : Chu w u' ms cu C :=
  ⟨own_low h hM.below.size, fun m hm q => by have := (own_blk h m q).1; have := hM.lt m hm; omega⟩
theorem Chu.make {w u : World} {ms : List Nat} {cu : Value} {C : List Cho} (h : Chu w u ms cu C) : Chu w (u.alloc (.map #[] 0)) (u.heap.size :: ms) cu C :=
  ⟨(h.keep ((Below.refl u.heap.size u).alloc (Nat.le_refl _) _)).own, fun m hm q => by
    rcases List.mem_cons.1 hm with rfl | hm
    · have := (own_blk h.own _ q).2; omega
    · exact h.far m hm q⟩
theorem new0_leaf {w u : World} {ms : List Nat} {cu : Value} {C : List Cho} {sl rm : Int} {m1 m2 m3 : Nat} (hM : Mps w u ms) (hC : Chu w u ms cu C) (h1 : m1 ∈ ms) (h2 : m2 ∈ ms) (h3 : m3 ∈ ms) (hn : [m1, m2, m3].Nodup) :
    New0 w (u.alloc (.cells (dv0 sl rm m1 m2 m3 cu).cells.toArray 123)) u.heap.size m1 m2 m3 cu sl rm C := by
  have hb : Below u.heap.size u (u.alloc (.cells (dv0 sl rm m1 m2 m3 cu).cells.toArray 123)) := (Below.refl _ _).alloc (Nat.le_refl _) _
  have k := hM.keep hb
  have l := hC.keep hb
  have sub : ∀ m ∈ [m1, m2, m3], m ∈ ms := fun m hm => by
    simp only [List.mem_cons, List.not_mem_nil, or_false] at hm
    rcases hm with rfl | rfl | rfl <;> assumption
  refine ⟨⟨heap_alloc_new _ _, z32_len⟩, ⟨fun m hm => k.at_ m (sub m hm), hn, fun m hm => k.ge m (sub m hm), k.below⟩, ⟨l.own, fun m hm q => ?_⟩, ⟨?_, ?_, ?_⟩, hM.below.size⟩
  · have hm' : m ∈ [m1, m2, m3] ∨ m = u.heap.size := by
      simp only [List.mem_cons, List.not_mem_nil, or_false] at hm ⊢
      omega
    rcases hm' with hm' | rfl
    · exact l.far m (sub m hm') q
    · have := (own_blk hC.own _ q).2
      omega
  · have := hM.lt _ h1; omega
  · have := hM.lt _ h2; omega
  · have := hM.lt _ h3; omega
theorem Mps.perm {w u : World} {ms ms' : List Nat} (h : Mps w u ms) (p : ms.Perm ms') : Mps w u ms' := ⟨fun m hm => h.at_ m (p.mem_iff.2 hm), p.nodup_iff.1 h.nd, fun m hm => h.ge m (p.mem_iff.2 hm), h.below⟩
theorem Chu.perm {w u : World} {ms ms' : List Nat} {cu : Value} {C : List Cho} (h : Chu w u ms cu C) (p : ms.Perm ms') : Chu w u ms' cu C := ⟨h.own, fun m hm => h.far m (p.mem_iff.2 hm)⟩
def msL (b4 b12 b13 : Bool) (m4 m12 m13 : Nat) : List Nat := (if b4 = true then [m4] else []) ++ ((if b12 = true then [m12] else []) ++ (if b13 = true then [m13] else []))
def updA (A : Act) (b4 b7 b11 b12 b13 : Bool) (m4 m12 m13 : Nat) (cu : Value) : Act :=
  let a := if b4 = true then A.put (some 39) (.map (some m4)) else A
  let a := if b7 = true then a.put (some 42) nilS else a
  let a := if b11 = true then a.put (some 46) cu else a
  let a := if b12 = true then a.put (some 47) (.map (some m12)) else a
  if b13 = true then a.put (some 48) (.map (some m13)) else a
/-- the states, from the frame A0 on -/
theorem wpAnyH_states2 {P : Program} {ops : Array Oper} {Q : Exit → Act → World → Prop} {md : Region.Mode} {S : World → Prop} {n0 : Nat} {l0 : Array Bool} {A0 : Act} {u0 : World} (J : Act → Nat → Array Bool → Act → World → Prop)
    (hI : ∀ n l a w, J A0 n l a w → wpAnyH P md ops Q S n l a w ∨ ∃ m rs, n = m + 1 ∧ Region.ready md ops l = rs ∧ rs ≠ [] ∧ AllReadyI P ops Q (fun i a' w' => S w' ∧ J A0 m (l.setIfInBounds i true) a' w') a w rs)
    (h0 : J A0 n0 l0 A0 u0) : wpAnyH P md ops Q S n0 l0 A0 u0 := wpAnyH_states (J A0) hI n0 l0 A0 u0 h0
set_option maxRecDepth 100000 in
set_option maxHeartbeats 25600000 in
theorem load_ok {w : World} {sl rm : Int} {cv : Value} {C : List Cho} (h : limB sl rm = true) (hc : Chs w cv C) (hb : chsB C = true) :
    Calls Tryz.prog 35 #[.agg (mdc sl rm nilS nilS 0 z32).toArray, cv] w fun e w' => ∃ g m1 m2 m3 cu, e = .returned (.tuple #[.pointer (some ⟨g, 0, none⟩), .int .i64 0]) ∧ New0 w w' g m1 m2 m3 cu sl rm C := by
  have hl : 1 ≤ sl ∧ sl ≤ 4096 ∧ 0 ≤ rm ∧ rm ≤ 1048576 := of_decide_eq_true h
  have HR : Hid ((w.alloc (.cells (mdc sl rm nilS nilS 0 z32).toArray 68)).rangeAt w.heap.size 0 (mdc sl rm nilS nilS 0 z32)) := rng_new w _ _
  have HI : Hid ((Tryz.prog.info? 68).map (·.size) = some (mdc sl rm nilS nilS 0 z32).length) := i54' z32_len
  have HI3 : Hid ((Tryz.prog.info? 66).map (·.size) = some (rgc 0 z32).length) := i39' z32_len
  have HB : Hid (Below w.heap.size w (w.alloc (.cells (mdc sl rm nilS nilS 0 z32).toArray 68))) := (Below.refl _ _).alloc (Nat.le_refl _) _
  have H1 : Hid (∀ u, Calls Tryz.prog 82 #[.agg (mdc sl rm nilS nilS 0 z32).toArray] u fun e w' => e = .returned (.bool true) ∧ Below u.heap.size u w') := fun u => by
    have := limits_any u sl rm nilS nilS 0 z32
    rw [h] at this
    exact this
  have H2 : Hid (∀ u, Calls Tryz.prog 83 #[.agg (mdc sl rm nilS nilS 0 z32).toArray] u fun e w' => e = .returned (.bool true) ∧ Below u.heap.size u w') := fun u => blobs_none u sl rm nilS 0 z32 hl.1
  have H3 : Hid (∀ u, Calls Tryz.prog 84 #[.agg (rgc 0 z32).toArray] u fun e w' => e = .returned (.bool true) ∧ Below u.heap.size u w') := fun u => by
    have := register_any u 0 z32 isH_z32
    have e : regB 0 z32 = true := by simp [regB]
    rw [e] at this
    exact this
  have H4 : Hid (∀ u, Below w.heap.size w u → Calls Tryz.prog 85 #[cv] u fun e w' => e = .returned (.bool true) ∧ Below u.heap.size u w') := fun u hu => by
    have := choices_any (hc.keep hu)
    rw [hb] at this
    exact this
  have HF : Hid (∀ u : World, u.rangeAt w.heap.size 0 (mdc sl rm nilS nilS 0 z32) → u.cell? ⟨w.heap.size, 1, none⟩ = some (.int .i64 rm) ∧ u.cell? ⟨w.heap.size, 3, none⟩ = some (.slice none 0 0) ∧ u.rangeAt w.heap.size 4 (rgc 0 z32) ∧ u.cell? ⟨w.heap.size, 0, none⟩ = some (.int .i64 sl) ∧ u.cell? ⟨w.heap.size, 2, none⟩ = some (.slice none 0 0)) := fun u q => by
    obtain ⟨q0, q⟩ := rng_head q
    obtain ⟨q1, q⟩ := rng_head q
    obtain ⟨q2, q⟩ := rng_head q
    obtain ⟨q3, q⟩ := rng_head q
    exact ⟨q1, q3, q, q0, q2⟩
  have hrm : ¬ rm < 0 := by omega
  have hrd : decide (rm < 0) = false := decide_eq_false hrm
  obtain ⟨L, hL⟩ : ∃ L, L = mdc sl rm nilS nilS 0 z32 := ⟨_, rfl⟩
  obtain ⟨G, hG⟩ : ∃ G, G = rgc 0 z32 := ⟨_, rfl⟩
  rw [← hL] at HR HI HB H1 H2 HF ⊢
  rw [← hG] at HI3 H3 HF
  have HCH : Hid (Chs w cv C) := hc
  obtain ⟨a, b, off, cc, e, _⟩ := hc
  subst e
  have HBD : Hid (∀ (m1 m2 m3 : Nat) (a : Option Addr) (n c : Nat), Tryz.prog.built 123 [(0, .int .i64 sl), (1, .int .i64 rm), (2, .map (some m1)), (3, .slice none 0 0), (4, .agg G.toArray), (6, .slice a n c), (8, .map (some m2)), (9, .map (some m3))] = some (dv0 sl rm m1 m2 m3 (.slice a n c)).cells.toArray) := by
    rw [hG]
    exact built72 sl rm
  clear hL h hG hb hl
  go_enter Tryz.func35, Tryz.ntmps35
  go_upto_region 5 with (first
    | refine wpList_load_mid_g (by kernel_rfl) 68 _ (by rfl) w.heap.size 0 (by rfl) L _ HR.out Tryz.underlying68 rfl HI.out ?_
    | (go_at_call 82; refine (H1.out _).mono ?_; rintro e w1 ⟨rfl, hb⟩; replace HR : Hid (w1.rangeAt w.heap.size 0 L) := rng_keep HR.out hb; replace HB : Hid (Below w.heap.size w w1) := HB.out.trans (hb.mono (by simp)); clear hb)
    | (go_at_call 83; refine (H2.out _).mono ?_; rintro e w2 ⟨rfl, hb⟩; replace HR : Hid (w2.rangeAt w.heap.size 0 L) := rng_keep HR.out hb; replace HB : Hid (Below w.heap.size w w2) := HB.out.trans (hb.mono HB.out.size); clear hb; obtain ⟨k1, k3, k4, _, _⟩ := HF.out _ HR.out; have HK4 : Hid (w2.rangeAt w.heap.size 4 G) := k4; clear k4)
    | refine wpList_load_mid_g (by kernel_rfl) 66 _ (by rfl) w.heap.size 4 (by rfl) G _ HK4.out Tryz.underlying66 rfl HI3.out ?_
    | (go_at_call 84; refine (H3.out _).mono ?_; rintro e w3 ⟨rfl, hb⟩; replace HR : Hid (w3.rangeAt w.heap.size 0 L) := rng_keep HR.out hb; replace HB : Hid (Below w.heap.size w w3) := HB.out.trans (hb.mono HB.out.size); clear hb)
    | (go_at_call 85; refine (H4.out _ HB.out).mono ?_; rintro e w4 ⟨rfl, hb⟩; replace HR : Hid (w4.rangeAt w.heap.size 0 L) := rng_keep HR.out hb; replace HB : Hid (Below w.heap.size w w4) := HB.out.trans (hb.mono HB.out.size); clear hb))
  go_cut [6] (fun dv wx => ∃ g m1 m2 m3 cu, dv = .pointer (some ⟨g, 0, none⟩) ∧ New0 w wx g m1 m2 m3 cu sl rm C ∧ wx.rangeAt w.heap.size 0 L)
  case first =>
    have hM : Mps w w4.drew [] := ⟨by simp, List.nodup_nil, by simp, HB.out.drew⟩
    have hmm := @run_makeMap Tryz.prog
    have hRd : w4.drew.rangeAt w.heap.size 0 L := HR.out
    refine wp_region_held_drew (S := fun u => u.rangeAt w.heap.size 0 L) (by kernel_rfl) hRd ?_
    intro hS
    change wpAnyH _ _ _ _ _ 17 _ _ _
    clear hRd HR HB H1 H2 H3 H4 HI
    generalize w4.drew = u0 at hS hM ⊢
    refine wpAnyH_take (i := 0) (v := (.pointer (some ⟨w.heap.size, 0, none⟩))) (by simp only [List.getElem?_toArray, List.getElem?_cons_zero]; rfl) (by kernel_rfl) (by kernel_rfl) (by kernel_rfl) (by exact fun _ _ _ h => h) (y_f_Med0 (by kernel_rfl) _ rfl _ _ rfl) hS ?_
    try simp only [Act.put, List.setIfInBounds_toArray, List.set_cons_zero, List.set_cons_succ]
    refine wpAnyH_take (i := 1) (v := (.int .i64 sl)) (by simp only [List.getElem?_toArray, List.getElem?_cons_zero, List.getElem?_cons_succ]; rfl) (by kernel_rfl) (by kernel_rfl) (by kernel_rfl) (by exact fun _ _ _ h => h) (y_l_int (by kernel_rfl) _ rfl _ _ rfl _ (fun u hs => (HF.out u hs).2.2.2.1)) hS ?_
    try simp only [Act.put, List.setIfInBounds_toArray, List.set_cons_zero, List.set_cons_succ]
    refine wpAnyH_take (i := 2) (v := (.pointer (some ⟨w.heap.size, 0 + 1, none⟩))) (by simp only [List.getElem?_toArray, List.getElem?_cons_zero, List.getElem?_cons_succ]; rfl) (by kernel_rfl) (by kernel_rfl) (by kernel_rfl) (by exact fun _ _ _ h => h) (y_f_Med1 (by kernel_rfl) _ rfl _ _ rfl) hS ?_
    try simp only [Act.put, List.setIfInBounds_toArray, List.set_cons_zero, List.set_cons_succ]
    refine wpAnyH_take (i := 3) (v := (.int .i64 rm)) (by simp only [List.getElem?_toArray, List.getElem?_cons_zero, List.getElem?_cons_succ]; rfl) (by kernel_rfl) (by kernel_rfl) (by kernel_rfl) (by exact fun _ _ _ h => h) (y_l_int (by kernel_rfl) _ rfl _ _ rfl _ (fun u hs => (HF.out u hs).1)) hS ?_
    try simp only [Act.put, List.setIfInBounds_toArray, List.set_cons_zero, List.set_cons_succ]
    refine wpAnyH_take (i := 5) (v := (.pointer (some ⟨w.heap.size, 0 + 3, none⟩))) (by simp only [List.getElem?_toArray, List.getElem?_cons_zero, List.getElem?_cons_succ]; rfl) (by kernel_rfl) (by kernel_rfl) (by kernel_rfl) (by exact fun _ _ _ h => h) (y_f_Med3 (by kernel_rfl) _ rfl _ _ rfl) hS ?_
    try simp only [Act.put, List.setIfInBounds_toArray, List.set_cons_zero, List.set_cons_succ]
    refine wpAnyH_take (i := 6) (v := (.slice none 0 0)) (by simp only [List.getElem?_toArray, List.getElem?_cons_zero, List.getElem?_cons_succ]; rfl) (by kernel_rfl) (by kernel_rfl) (by kernel_rfl) (by exact fun _ _ _ h => h) (y_l_byt (by kernel_rfl) _ rfl _ _ rfl _ (fun u hs => (HF.out u hs).2.1)) hS ?_
    try simp only [Act.put, List.setIfInBounds_toArray, List.set_cons_zero, List.set_cons_succ]
    refine wpAnyH_take (i := 8) (v := (.pointer (some ⟨w.heap.size, 0 + 4, none⟩))) (by simp only [List.getElem?_toArray, List.getElem?_cons_zero, List.getElem?_cons_succ]; rfl) (by kernel_rfl) (by kernel_rfl) (by kernel_rfl) (by exact fun _ _ _ h => h) (y_f_Med4 (by kernel_rfl) _ rfl _ _ rfl) hS ?_
    try simp only [Act.put, List.setIfInBounds_toArray, List.set_cons_zero, List.set_cons_succ]
    refine wpAnyH_take (i := 9) (v := (.agg G.toArray)) (by simp only [List.getElem?_toArray, List.getElem?_cons_zero, List.getElem?_cons_succ]; rfl) (by kernel_rfl) (by kernel_rfl) (by kernel_rfl) (by exact fun _ _ _ h => h) (y_s_Reg (by kernel_rfl) _ rfl _ _ rfl G HI3.out (fun u hs => (HF.out u hs).2.2.1)) hS ?_
    try simp only [Act.put, List.setIfInBounds_toArray, List.set_cons_zero, List.set_cons_succ]
    refine wpAnyH_take (i := 10) (v := (.slice a C.length cc)) (by simp only [List.getElem?_toArray, List.getElem?_cons_zero, List.getElem?_cons_succ]; rfl) (by kernel_rfl) (by kernel_rfl) (by kernel_rfl) (by exact fun _ _ _ h => h) (y_move (by kernel_rfl) _ rfl _ rfl) hS ?_
    try simp only [Act.put, List.setIfInBounds_toArray, List.set_cons_zero, List.set_cons_succ]
    change wpAnyH _ _ _ _ _ 8 #[true, true, true, true, false, true, true, false, true, true, true, false, false, false, false, false, false] _ _
    refine wpAnyH_states2 (fun A0 n l a' u => ∃ (b4 b7 b11 b12 b13 : Bool) (m4 m12 m13 : Nat) (ca : Option Addr) (ck : Nat), n = 3 + ((!b4).toNat + ((!b7).toNat + ((!b11).toNat + ((!b12).toNat + (!b13).toNat)))) ∧ l = #[true, true, true, true, b4, true, true, b7, true, true, true, b11, b12, b13, false, false, false] ∧ a' = updA A0 b4 b7 b11 b12 b13 m4 m12 m13 (.slice ca C.length ck) ∧ (b11 = true → b7 = true) ∧ Mps w u (msL b4 b12 b13 m4 m12 m13) ∧ (b11 = true → Chu w u (msL b4 b12 b13 m4 m12 m13) (.slice ca C.length ck) C) ∧ u.rangeAt w.heap.size 0 L) ?_ ⟨false, false, false, false, false, 0, 0, 0, none, 0, rfl, rfl, rfl, (fun q => by cases q), hM, (fun q => by cases q), hS⟩
    clear hM hS
    rintro n l a' u ⟨b4, b7, b11, b12, b13, m4, m12, m13, ca, ck, rfl, rfl, rfl, h117, hM, hC, hS⟩
    cases b4 <;> cases b7 <;> cases b11 <;> cases b12 <;> cases b13
    · simp only [updA, if_false, Bool.false_eq_true, Act.put, List.setIfInBounds_toArray, List.set_cons_zero, List.set_cons_succ]
      refine Or.inr ⟨7, [4, 7, 12, 13], rfl, by kernel_rfl, by simp, ?_⟩
      refine (AllReadyI.cons (by simp only [List.getElem?_toArray, List.getElem?_cons_zero, List.getElem?_cons_succ]; rfl) (fun K hK => ?_) (AllReadyI.cons (by simp only [List.getElem?_toArray, List.getElem?_cons_zero, List.getElem?_cons_succ]; rfl) (fun K hK => ?_) (AllReadyI.cons (by simp only [List.getElem?_toArray, List.getElem?_cons_zero, List.getElem?_cons_succ]; rfl) (fun K hK => ?_) (AllReadyI.cons (by simp only [List.getElem?_toArray, List.getElem?_cons_zero, List.getElem?_cons_succ]; rfl) (fun K hK => ?_) AllReadyI.nil))))
      · go_simp
        refine hK.out _ _ ⟨rng_keep hS ((Below.refl u.heap.size u).alloc (Nat.le_refl _) _), true, false, false, false, false, u.heap.size, m12, m13, ca, ck, rfl, rfl, rfl, (by exact fun q => by cases q), hM.make.perm (List.Perm.refl _), (by exact fun q => by cases q), rng_keep hS ((Below.refl u.heap.size u).alloc (Nat.le_refl _) _)⟩
      · go_simp
        refine (bclone_nil _).mono ?_
        rintro _ v ⟨rfl, hw⟩
        rw [hw]
        clear hw v
        refine hK.out _ _ ⟨hS, false, true, false, false, false, m4, m12, m13, ca, ck, rfl, rfl, rfl, (by exact fun _ => rfl), hM, (by exact fun q => by cases q), hS⟩
      · go_simp
        refine hK.out _ _ ⟨rng_keep hS ((Below.refl u.heap.size u).alloc (Nat.le_refl _) _), false, false, false, true, false, m4, u.heap.size, m13, ca, ck, rfl, rfl, rfl, (by exact fun q => by cases q), hM.make.perm (List.Perm.refl _), (by exact fun q => by cases q), rng_keep hS ((Below.refl u.heap.size u).alloc (Nat.le_refl _) _)⟩
      · go_simp
        refine hK.out _ _ ⟨rng_keep hS ((Below.refl u.heap.size u).alloc (Nat.le_refl _) _), false, false, false, false, true, m4, m12, u.heap.size, ca, ck, rfl, rfl, rfl, (by exact fun q => by cases q), hM.make.perm (List.Perm.refl _), (by exact fun q => by cases q), rng_keep hS ((Below.refl u.heap.size u).alloc (Nat.le_refl _) _)⟩
    · simp only [updA, if_true, if_false, Bool.false_eq_true, Act.put, List.setIfInBounds_toArray, List.set_cons_zero, List.set_cons_succ]
      refine Or.inr ⟨6, [4, 7, 12], rfl, by kernel_rfl, by simp, ?_⟩
      refine (AllReadyI.cons (by simp only [List.getElem?_toArray, List.getElem?_cons_zero, List.getElem?_cons_succ]; rfl) (fun K hK => ?_) (AllReadyI.cons (by simp only [List.getElem?_toArray, List.getElem?_cons_zero, List.getElem?_cons_succ]; rfl) (fun K hK => ?_) (AllReadyI.cons (by simp only [List.getElem?_toArray, List.getElem?_cons_zero, List.getElem?_cons_succ]; rfl) (fun K hK => ?_) AllReadyI.nil)))
      · go_simp
        refine hK.out _ _ ⟨rng_keep hS ((Below.refl u.heap.size u).alloc (Nat.le_refl _) _), true, false, false, false, true, u.heap.size, m12, m13, ca, ck, rfl, rfl, rfl, (by exact fun q => by cases q), hM.make.perm (List.Perm.refl _), (by exact fun q => by cases q), rng_keep hS ((Below.refl u.heap.size u).alloc (Nat.le_refl _) _)⟩
      · go_simp
        refine (bclone_nil _).mono ?_
        rintro _ v ⟨rfl, hw⟩
        rw [hw]
        clear hw v
        refine hK.out _ _ ⟨hS, false, true, false, false, true, m4, m12, m13, ca, ck, rfl, rfl, rfl, (by exact fun _ => rfl), hM, (by exact fun q => by cases q), hS⟩
      · go_simp
        refine hK.out _ _ ⟨rng_keep hS ((Below.refl u.heap.size u).alloc (Nat.le_refl _) _), false, false, false, true, true, m4, u.heap.size, m13, ca, ck, rfl, rfl, rfl, (by exact fun q => by cases q), hM.make.perm (List.Perm.refl _), (by exact fun q => by cases q), rng_keep hS ((Below.refl u.heap.size u).alloc (Nat.le_refl _) _)⟩
    · simp only [updA, if_true, if_false, Bool.false_eq_true, Act.put, List.setIfInBounds_toArray, List.set_cons_zero, List.set_cons_succ]
      refine Or.inr ⟨6, [4, 7, 13], rfl, by kernel_rfl, by simp, ?_⟩
      refine (AllReadyI.cons (by simp only [List.getElem?_toArray, List.getElem?_cons_zero, List.getElem?_cons_succ]; rfl) (fun K hK => ?_) (AllReadyI.cons (by simp only [List.getElem?_toArray, List.getElem?_cons_zero, List.getElem?_cons_succ]; rfl) (fun K hK => ?_) (AllReadyI.cons (by simp only [List.getElem?_toArray, List.getElem?_cons_zero, List.getElem?_cons_succ]; rfl) (fun K hK => ?_) AllReadyI.nil)))
      · go_simp
        refine hK.out _ _ ⟨rng_keep hS ((Below.refl u.heap.size u).alloc (Nat.le_refl _) _), true, false, false, true, false, u.heap.size, m12, m13, ca, ck, rfl, rfl, rfl, (by exact fun q => by cases q), hM.make.perm (List.Perm.refl _), (by exact fun q => by cases q), rng_keep hS ((Below.refl u.heap.size u).alloc (Nat.le_refl _) _)⟩
      · go_simp
        refine (bclone_nil _).mono ?_
        rintro _ v ⟨rfl, hw⟩
        rw [hw]
        clear hw v
        refine hK.out _ _ ⟨hS, false, true, false, true, false, m4, m12, m13, ca, ck, rfl, rfl, rfl, (by exact fun _ => rfl), hM, (by exact fun q => by cases q), hS⟩
      · go_simp
        refine hK.out _ _ ⟨rng_keep hS ((Below.refl u.heap.size u).alloc (Nat.le_refl _) _), false, false, false, true, true, m4, m12, u.heap.size, ca, ck, rfl, rfl, rfl, (by exact fun q => by cases q), hM.make.perm (List.Perm.swap _ _ _), (by exact fun q => by cases q), rng_keep hS ((Below.refl u.heap.size u).alloc (Nat.le_refl _) _)⟩
    · simp only [updA, if_true, if_false, Bool.false_eq_true, Act.put, List.setIfInBounds_toArray, List.set_cons_zero, List.set_cons_succ]
      refine Or.inr ⟨5, [4, 7], rfl, by kernel_rfl, by simp, ?_⟩
      refine (AllReadyI.cons (by simp only [List.getElem?_toArray, List.getElem?_cons_zero, List.getElem?_cons_succ]; rfl) (fun K hK => ?_) (AllReadyI.cons (by simp only [List.getElem?_toArray, List.getElem?_cons_zero, List.getElem?_cons_succ]; rfl) (fun K hK => ?_) AllReadyI.nil))
      · go_simp
        refine hK.out _ _ ⟨rng_keep hS ((Below.refl u.heap.size u).alloc (Nat.le_refl _) _), true, false, false, true, true, u.heap.size, m12, m13, ca, ck, rfl, rfl, rfl, (by exact fun q => by cases q), hM.make.perm (List.Perm.refl _), (by exact fun q => by cases q), rng_keep hS ((Below.refl u.heap.size u).alloc (Nat.le_refl _) _)⟩
      · go_simp
        refine (bclone_nil _).mono ?_
        rintro _ v ⟨rfl, hw⟩
        rw [hw]
        clear hw v
        refine hK.out _ _ ⟨hS, false, true, false, true, true, m4, m12, m13, ca, ck, rfl, rfl, rfl, (by exact fun _ => rfl), hM, (by exact fun q => by cases q), hS⟩
    · exact absurd (h117 rfl) (by decide)
    · exact absurd (h117 rfl) (by decide)
    · exact absurd (h117 rfl) (by decide)
    · exact absurd (h117 rfl) (by decide)
    · simp only [updA, if_true, if_false, Bool.false_eq_true, Act.put, List.setIfInBounds_toArray, List.set_cons_zero, List.set_cons_succ]
      refine Or.inr ⟨6, [4, 11, 12, 13], rfl, by kernel_rfl, by simp, ?_⟩
      refine (AllReadyI.cons (by simp only [List.getElem?_toArray, List.getElem?_cons_zero, List.getElem?_cons_succ]; rfl) (fun K hK => ?_) (AllReadyI.cons (by simp only [List.getElem?_toArray, List.getElem?_cons_zero, List.getElem?_cons_succ]; rfl) (fun K hK => ?_) (AllReadyI.cons (by simp only [List.getElem?_toArray, List.getElem?_cons_zero, List.getElem?_cons_succ]; rfl) (fun K hK => ?_) (AllReadyI.cons (by simp only [List.getElem?_toArray, List.getElem?_cons_zero, List.getElem?_cons_succ]; rfl) (fun K hK => ?_) AllReadyI.nil))))
      · go_simp
        refine hK.out _ _ ⟨rng_keep hS ((Below.refl u.heap.size u).alloc (Nat.le_refl _) _), true, true, false, false, false, u.heap.size, m12, m13, ca, ck, rfl, rfl, rfl, (by exact fun _ => rfl), hM.make.perm (List.Perm.refl _), (by exact fun q => by cases q), rng_keep hS ((Below.refl u.heap.size u).alloc (Nat.le_refl _) _)⟩
      · go_simp
        refine (cclone_any (HCH.out.keep hM.below)).mono ?_
        rintro _ v ⟨cu, rfl, hO, hb⟩
        have hC2 := Chu.fresh hM hO
        obtain ⟨ca2, ck2, rfl⟩ := own_slice hO
        refine hK.out _ _ ⟨rng_keep hS hb, false, true, true, false, false, m4, m12, m13, ca2, ck2, rfl, rfl, rfl, (by exact fun _ => rfl), hM.keep hb, (by exact fun _ => hC2), rng_keep hS hb⟩
      · go_simp
        refine hK.out _ _ ⟨rng_keep hS ((Below.refl u.heap.size u).alloc (Nat.le_refl _) _), false, true, false, true, false, m4, u.heap.size, m13, ca, ck, rfl, rfl, rfl, (by exact fun _ => rfl), hM.make.perm (List.Perm.refl _), (by exact fun q => by cases q), rng_keep hS ((Below.refl u.heap.size u).alloc (Nat.le_refl _) _)⟩
      · go_simp
        refine hK.out _ _ ⟨rng_keep hS ((Below.refl u.heap.size u).alloc (Nat.le_refl _) _), false, true, false, false, true, m4, m12, u.heap.size, ca, ck, rfl, rfl, rfl, (by exact fun _ => rfl), hM.make.perm (List.Perm.refl _), (by exact fun q => by cases q), rng_keep hS ((Below.refl u.heap.size u).alloc (Nat.le_refl _) _)⟩
    · simp only [updA, if_true, if_false, Bool.false_eq_true, Act.put, List.setIfInBounds_toArray, List.set_cons_zero, List.set_cons_succ]
      refine Or.inr ⟨5, [4, 11, 12], rfl, by kernel_rfl, by simp, ?_⟩
      refine (AllReadyI.cons (by simp only [List.getElem?_toArray, List.getElem?_cons_zero, List.getElem?_cons_succ]; rfl) (fun K hK => ?_) (AllReadyI.cons (by simp only [List.getElem?_toArray, List.getElem?_cons_zero, List.getElem?_cons_succ]; rfl) (fun K hK => ?_) (AllReadyI.cons (by simp only [List.getElem?_toArray, List.getElem?_cons_zero, List.getElem?_cons_succ]; rfl) (fun K hK => ?_) AllReadyI.nil)))
      · go_simp
        refine hK.out _ _ ⟨rng_keep hS ((Below.refl u.heap.size u).alloc (Nat.le_refl _) _), true, true, false, false, true, u.heap.size, m12, m13, ca, ck, rfl, rfl, rfl, (by exact fun _ => rfl), hM.make.perm (List.Perm.refl _), (by exact fun q => by cases q), rng_keep hS ((Below.refl u.heap.size u).alloc (Nat.le_refl _) _)⟩
      · go_simp
        refine (cclone_any (HCH.out.keep hM.below)).mono ?_
        rintro _ v ⟨cu, rfl, hO, hb⟩
        have hC2 := Chu.fresh hM hO
        obtain ⟨ca2, ck2, rfl⟩ := own_slice hO
        refine hK.out _ _ ⟨rng_keep hS hb, false, true, true, false, true, m4, m12, m13, ca2, ck2, rfl, rfl, rfl, (by exact fun _ => rfl), hM.keep hb, (by exact fun _ => hC2), rng_keep hS hb⟩
      · go_simp
        refine hK.out _ _ ⟨rng_keep hS ((Below.refl u.heap.size u).alloc (Nat.le_refl _) _), false, true, false, true, true, m4, u.heap.size, m13, ca, ck, rfl, rfl, rfl, (by exact fun _ => rfl), hM.make.perm (List.Perm.refl _), (by exact fun q => by cases q), rng_keep hS ((Below.refl u.heap.size u).alloc (Nat.le_refl _) _)⟩
    · simp only [updA, if_true, if_false, Bool.false_eq_true, Act.put, List.setIfInBounds_toArray, List.set_cons_zero, List.set_cons_succ]
      refine Or.inr ⟨5, [4, 11, 13], rfl, by kernel_rfl, by simp, ?_⟩
      refine (AllReadyI.cons (by simp only [List.getElem?_toArray, List.getElem?_cons_zero, List.getElem?_cons_succ]; rfl) (fun K hK => ?_) (AllReadyI.cons (by simp only [List.getElem?_toArray, List.getElem?_cons_zero, List.getElem?_cons_succ]; rfl) (fun K hK => ?_) (AllReadyI.cons (by simp only [List.getElem?_toArray, List.getElem?_cons_zero, List.getElem?_cons_succ]; rfl) (fun K hK => ?_) AllReadyI.nil)))
      · go_simp
        refine hK.out _ _ ⟨rng_keep hS ((Below.refl u.heap.size u).alloc (Nat.le_refl _) _), true, true, false, true, false, u.heap.size, m12, m13, ca, ck, rfl, rfl, rfl, (by exact fun _ => rfl), hM.make.perm (List.Perm.refl _), (by exact fun q => by cases q), rng_keep hS ((Below.refl u.heap.size u).alloc (Nat.le_refl _) _)⟩
      · go_simp
        refine (cclone_any (HCH.out.keep hM.below)).mono ?_
        rintro _ v ⟨cu, rfl, hO, hb⟩
        have hC2 := Chu.fresh hM hO
        obtain ⟨ca2, ck2, rfl⟩ := own_slice hO
        refine hK.out _ _ ⟨rng_keep hS hb, false, true, true, true, false, m4, m12, m13, ca2, ck2, rfl, rfl, rfl, (by exact fun _ => rfl), hM.keep hb, (by exact fun _ => hC2), rng_keep hS hb⟩
      · go_simp
        refine hK.out _ _ ⟨rng_keep hS ((Below.refl u.heap.size u).alloc (Nat.le_refl _) _), false, true, false, true, true, m4, m12, u.heap.size, ca, ck, rfl, rfl, rfl, (by exact fun _ => rfl), hM.make.perm (List.Perm.swap _ _ _), (by exact fun q => by cases q), rng_keep hS ((Below.refl u.heap.size u).alloc (Nat.le_refl _) _)⟩
    · simp only [updA, if_true, if_false, Bool.false_eq_true, Act.put, List.setIfInBounds_toArray, List.set_cons_zero, List.set_cons_succ]
      refine Or.inr ⟨4, [4, 11], rfl, by kernel_rfl, by simp, ?_⟩
      refine (AllReadyI.cons (by simp only [List.getElem?_toArray, List.getElem?_cons_zero, List.getElem?_cons_succ]; rfl) (fun K hK => ?_) (AllReadyI.cons (by simp only [List.getElem?_toArray, List.getElem?_cons_zero, List.getElem?_cons_succ]; rfl) (fun K hK => ?_) AllReadyI.nil))
      · go_simp
        refine hK.out _ _ ⟨rng_keep hS ((Below.refl u.heap.size u).alloc (Nat.le_refl _) _), true, true, false, true, true, u.heap.size, m12, m13, ca, ck, rfl, rfl, rfl, (by exact fun _ => rfl), hM.make.perm (List.Perm.refl _), (by exact fun q => by cases q), rng_keep hS ((Below.refl u.heap.size u).alloc (Nat.le_refl _) _)⟩
      · go_simp
        refine (cclone_any (HCH.out.keep hM.below)).mono ?_
        rintro _ v ⟨cu, rfl, hO, hb⟩
        have hC2 := Chu.fresh hM hO
        obtain ⟨ca2, ck2, rfl⟩ := own_slice hO
        refine hK.out _ _ ⟨rng_keep hS hb, false, true, true, true, true, m4, m12, m13, ca2, ck2, rfl, rfl, rfl, (by exact fun _ => rfl), hM.keep hb, (by exact fun _ => hC2), rng_keep hS hb⟩
    · simp only [updA, if_true, if_false, Bool.false_eq_true, Act.put, List.setIfInBounds_toArray, List.set_cons_zero, List.set_cons_succ]
      refine Or.inr ⟨5, [4, 12, 13], rfl, by kernel_rfl, by simp, ?_⟩
      refine (AllReadyI.cons (by simp only [List.getElem?_toArray, List.getElem?_cons_zero, List.getElem?_cons_succ]; rfl) (fun K hK => ?_) (AllReadyI.cons (by simp only [List.getElem?_toArray, List.getElem?_cons_zero, List.getElem?_cons_succ]; rfl) (fun K hK => ?_) (AllReadyI.cons (by simp only [List.getElem?_toArray, List.getElem?_cons_zero, List.getElem?_cons_succ]; rfl) (fun K hK => ?_) AllReadyI.nil)))
      · go_simp
        refine hK.out _ _ ⟨rng_keep hS ((Below.refl u.heap.size u).alloc (Nat.le_refl _) _), true, true, true, false, false, u.heap.size, m12, m13, ca, ck, rfl, rfl, rfl, (by exact fun _ => rfl), hM.make.perm (List.Perm.refl _), (by exact fun _ => (hC rfl).make.perm (List.Perm.refl _)), rng_keep hS ((Below.refl u.heap.size u).alloc (Nat.le_refl _) _)⟩
      · go_simp
        refine hK.out _ _ ⟨rng_keep hS ((Below.refl u.heap.size u).alloc (Nat.le_refl _) _), false, true, true, true, false, m4, u.heap.size, m13, ca, ck, rfl, rfl, rfl, (by exact fun _ => rfl), hM.make.perm (List.Perm.refl _), (by exact fun _ => (hC rfl).make.perm (List.Perm.refl _)), rng_keep hS ((Below.refl u.heap.size u).alloc (Nat.le_refl _) _)⟩
      · go_simp
        refine hK.out _ _ ⟨rng_keep hS ((Below.refl u.heap.size u).alloc (Nat.le_refl _) _), false, true, true, false, true, m4, m12, u.heap.size, ca, ck, rfl, rfl, rfl, (by exact fun _ => rfl), hM.make.perm (List.Perm.refl _), (by exact fun _ => (hC rfl).make.perm (List.Perm.refl _)), rng_keep hS ((Below.refl u.heap.size u).alloc (Nat.le_refl _) _)⟩
    · simp only [updA, if_true, if_false, Bool.false_eq_true, Act.put, List.setIfInBounds_toArray, List.set_cons_zero, List.set_cons_succ]
      refine Or.inr ⟨4, [4, 12], rfl, by kernel_rfl, by simp, ?_⟩
      refine (AllReadyI.cons (by simp only [List.getElem?_toArray, List.getElem?_cons_zero, List.getElem?_cons_succ]; rfl) (fun K hK => ?_) (AllReadyI.cons (by simp only [List.getElem?_toArray, List.getElem?_cons_zero, List.getElem?_cons_succ]; rfl) (fun K hK => ?_) AllReadyI.nil))
      · go_simp
        refine hK.out _ _ ⟨rng_keep hS ((Below.refl u.heap.size u).alloc (Nat.le_refl _) _), true, true, true, false, true, u.heap.size, m12, m13, ca, ck, rfl, rfl, rfl, (by exact fun _ => rfl), hM.make.perm (List.Perm.refl _), (by exact fun _ => (hC rfl).make.perm (List.Perm.refl _)), rng_keep hS ((Below.refl u.heap.size u).alloc (Nat.le_refl _) _)⟩
      · go_simp
        refine hK.out _ _ ⟨rng_keep hS ((Below.refl u.heap.size u).alloc (Nat.le_refl _) _), false, true, true, true, true, m4, u.heap.size, m13, ca, ck, rfl, rfl, rfl, (by exact fun _ => rfl), hM.make.perm (List.Perm.refl _), (by exact fun _ => (hC rfl).make.perm (List.Perm.refl _)), rng_keep hS ((Below.refl u.heap.size u).alloc (Nat.le_refl _) _)⟩
    · simp only [updA, if_true, if_false, Bool.false_eq_true, Act.put, List.setIfInBounds_toArray, List.set_cons_zero, List.set_cons_succ]
      refine Or.inr ⟨4, [4, 13], rfl, by kernel_rfl, by simp, ?_⟩
      refine (AllReadyI.cons (by simp only [List.getElem?_toArray, List.getElem?_cons_zero, List.getElem?_cons_succ]; rfl) (fun K hK => ?_) (AllReadyI.cons (by simp only [List.getElem?_toArray, List.getElem?_cons_zero, List.getElem?_cons_succ]; rfl) (fun K hK => ?_) AllReadyI.nil))
      · go_simp
        refine hK.out _ _ ⟨rng_keep hS ((Below.refl u.heap.size u).alloc (Nat.le_refl _) _), true, true, true, true, false, u.heap.size, m12, m13, ca, ck, rfl, rfl, rfl, (by exact fun _ => rfl), hM.make.perm (List.Perm.refl _), (by exact fun _ => (hC rfl).make.perm (List.Perm.refl _)), rng_keep hS ((Below.refl u.heap.size u).alloc (Nat.le_refl _) _)⟩
      · go_simp
        refine hK.out _ _ ⟨rng_keep hS ((Below.refl u.heap.size u).alloc (Nat.le_refl _) _), false, true, true, true, true, m4, m12, u.heap.size, ca, ck, rfl, rfl, rfl, (by exact fun _ => rfl), hM.make.perm (List.Perm.swap _ _ _), (by exact fun _ => (hC rfl).make.perm (List.Perm.swap _ _ _)), rng_keep hS ((Below.refl u.heap.size u).alloc (Nat.le_refl _) _)⟩
    · simp only [updA, if_true, if_false, Bool.false_eq_true, Act.put, List.setIfInBounds_toArray, List.set_cons_zero, List.set_cons_succ]
      refine Or.inr ⟨3, [4], rfl, by kernel_rfl, by simp, ?_⟩
      refine (AllReadyI.cons (by simp only [List.getElem?_toArray, List.getElem?_cons_zero, List.getElem?_cons_succ]; rfl) (fun K hK => ?_) AllReadyI.nil)
      · go_simp
        refine hK.out _ _ ⟨rng_keep hS ((Below.refl u.heap.size u).alloc (Nat.le_refl _) _), true, true, true, true, true, u.heap.size, m12, m13, ca, ck, rfl, rfl, rfl, (by exact fun _ => rfl), hM.make.perm (List.Perm.refl _), (by exact fun _ => (hC rfl).make.perm (List.Perm.refl _)), rng_keep hS ((Below.refl u.heap.size u).alloc (Nat.le_refl _) _)⟩
    · simp only [updA, if_true, if_false, Bool.false_eq_true, Act.put, List.setIfInBounds_toArray, List.set_cons_zero, List.set_cons_succ]
      refine Or.inr ⟨6, [7, 12, 13], rfl, by kernel_rfl, by simp, ?_⟩
      refine (AllReadyI.cons (by simp only [List.getElem?_toArray, List.getElem?_cons_zero, List.getElem?_cons_succ]; rfl) (fun K hK => ?_) (AllReadyI.cons (by simp only [List.getElem?_toArray, List.getElem?_cons_zero, List.getElem?_cons_succ]; rfl) (fun K hK => ?_) (AllReadyI.cons (by simp only [List.getElem?_toArray, List.getElem?_cons_zero, List.getElem?_cons_succ]; rfl) (fun K hK => ?_) AllReadyI.nil)))
      · go_simp
        refine (bclone_nil _).mono ?_
        rintro _ v ⟨rfl, hw⟩
        rw [hw]
        clear hw v
        refine hK.out _ _ ⟨hS, true, true, false, false, false, m4, m12, m13, ca, ck, rfl, rfl, rfl, (by exact fun _ => rfl), hM, (by exact fun q => by cases q), hS⟩
      · go_simp
        refine hK.out _ _ ⟨rng_keep hS ((Below.refl u.heap.size u).alloc (Nat.le_refl _) _), true, false, false, true, false, m4, u.heap.size, m13, ca, ck, rfl, rfl, rfl, (by exact fun q => by cases q), hM.make.perm (List.Perm.swap _ _ _), (by exact fun q => by cases q), rng_keep hS ((Below.refl u.heap.size u).alloc (Nat.le_refl _) _)⟩
      · go_simp
        refine hK.out _ _ ⟨rng_keep hS ((Below.refl u.heap.size u).alloc (Nat.le_refl _) _), true, false, false, false, true, m4, m12, u.heap.size, ca, ck, rfl, rfl, rfl, (by exact fun q => by cases q), hM.make.perm (List.Perm.swap _ _ _), (by exact fun q => by cases q), rng_keep hS ((Below.refl u.heap.size u).alloc (Nat.le_refl _) _)⟩
    · simp only [updA, if_true, if_false, Bool.false_eq_true, Act.put, List.setIfInBounds_toArray, List.set_cons_zero, List.set_cons_succ]
      refine Or.inr ⟨5, [7, 12], rfl, by kernel_rfl, by simp, ?_⟩
      refine (AllReadyI.cons (by simp only [List.getElem?_toArray, List.getElem?_cons_zero, List.getElem?_cons_succ]; rfl) (fun K hK => ?_) (AllReadyI.cons (by simp only [List.getElem?_toArray, List.getElem?_cons_zero, List.getElem?_cons_succ]; rfl) (fun K hK => ?_) AllReadyI.nil))
      · go_simp
        refine (bclone_nil _).mono ?_
        rintro _ v ⟨rfl, hw⟩
        rw [hw]
        clear hw v
        refine hK.out _ _ ⟨hS, true, true, false, false, true, m4, m12, m13, ca, ck, rfl, rfl, rfl, (by exact fun _ => rfl), hM, (by exact fun q => by cases q), hS⟩
      · go_simp
        refine hK.out _ _ ⟨rng_keep hS ((Below.refl u.heap.size u).alloc (Nat.le_refl _) _), true, false, false, true, true, m4, u.heap.size, m13, ca, ck, rfl, rfl, rfl, (by exact fun q => by cases q), hM.make.perm (List.Perm.swap _ _ _), (by exact fun q => by cases q), rng_keep hS ((Below.refl u.heap.size u).alloc (Nat.le_refl _) _)⟩
    · simp only [updA, if_true, if_false, Bool.false_eq_true, Act.put, List.setIfInBounds_toArray, List.set_cons_zero, List.set_cons_succ]
      refine Or.inr ⟨5, [7, 13], rfl, by kernel_rfl, by simp, ?_⟩
      refine (AllReadyI.cons (by simp only [List.getElem?_toArray, List.getElem?_cons_zero, List.getElem?_cons_succ]; rfl) (fun K hK => ?_) (AllReadyI.cons (by simp only [List.getElem?_toArray, List.getElem?_cons_zero, List.getElem?_cons_succ]; rfl) (fun K hK => ?_) AllReadyI.nil))
      · go_simp
        refine (bclone_nil _).mono ?_
        rintro _ v ⟨rfl, hw⟩
        rw [hw]
        clear hw v
        refine hK.out _ _ ⟨hS, true, true, false, true, false, m4, m12, m13, ca, ck, rfl, rfl, rfl, (by exact fun _ => rfl), hM, (by exact fun q => by cases q), hS⟩
      · go_simp
        refine hK.out _ _ ⟨rng_keep hS ((Below.refl u.heap.size u).alloc (Nat.le_refl _) _), true, false, false, true, true, m4, m12, u.heap.size, ca, ck, rfl, rfl, rfl, (by exact fun q => by cases q), hM.make.perm ((List.Perm.swap _ _ _).trans (List.Perm.cons _ (List.Perm.swap _ _ _))), (by exact fun q => by cases q), rng_keep hS ((Below.refl u.heap.size u).alloc (Nat.le_refl _) _)⟩
    · simp only [updA, if_true, if_false, Bool.false_eq_true, Act.put, List.setIfInBounds_toArray, List.set_cons_zero, List.set_cons_succ]
      refine Or.inr ⟨4, [7], rfl, by kernel_rfl, by simp, ?_⟩
      refine (AllReadyI.cons (by simp only [List.getElem?_toArray, List.getElem?_cons_zero, List.getElem?_cons_succ]; rfl) (fun K hK => ?_) AllReadyI.nil)
      · go_simp
        refine (bclone_nil _).mono ?_
        rintro _ v ⟨rfl, hw⟩
        rw [hw]
        clear hw v
        refine hK.out _ _ ⟨hS, true, true, false, true, true, m4, m12, m13, ca, ck, rfl, rfl, rfl, (by exact fun _ => rfl), hM, (by exact fun q => by cases q), hS⟩
    · exact absurd (h117 rfl) (by decide)
    · exact absurd (h117 rfl) (by decide)
    · exact absurd (h117 rfl) (by decide)
    · exact absurd (h117 rfl) (by decide)
    · simp only [updA, if_true, if_false, Bool.false_eq_true, Act.put, List.setIfInBounds_toArray, List.set_cons_zero, List.set_cons_succ]
      refine Or.inr ⟨5, [11, 12, 13], rfl, by kernel_rfl, by simp, ?_⟩
      refine (AllReadyI.cons (by simp only [List.getElem?_toArray, List.getElem?_cons_zero, List.getElem?_cons_succ]; rfl) (fun K hK => ?_) (AllReadyI.cons (by simp only [List.getElem?_toArray, List.getElem?_cons_zero, List.getElem?_cons_succ]; rfl) (fun K hK => ?_) (AllReadyI.cons (by simp only [List.getElem?_toArray, List.getElem?_cons_zero, List.getElem?_cons_succ]; rfl) (fun K hK => ?_) AllReadyI.nil)))
      · go_simp
        refine (cclone_any (HCH.out.keep hM.below)).mono ?_
        rintro _ v ⟨cu, rfl, hO, hb⟩
        have hC2 := Chu.fresh hM hO
        obtain ⟨ca2, ck2, rfl⟩ := own_slice hO
        refine hK.out _ _ ⟨rng_keep hS hb, true, true, true, false, false, m4, m12, m13, ca2, ck2, rfl, rfl, rfl, (by exact fun _ => rfl), hM.keep hb, (by exact fun _ => hC2), rng_keep hS hb⟩
      · go_simp
        refine hK.out _ _ ⟨rng_keep hS ((Below.refl u.heap.size u).alloc (Nat.le_refl _) _), true, true, false, true, false, m4, u.heap.size, m13, ca, ck, rfl, rfl, rfl, (by exact fun _ => rfl), hM.make.perm (List.Perm.swap _ _ _), (by exact fun q => by cases q), rng_keep hS ((Below.refl u.heap.size u).alloc (Nat.le_refl _) _)⟩
      · go_simp
        refine hK.out _ _ ⟨rng_keep hS ((Below.refl u.heap.size u).alloc (Nat.le_refl _) _), true, true, false, false, true, m4, m12, u.heap.size, ca, ck, rfl, rfl, rfl, (by exact fun _ => rfl), hM.make.perm (List.Perm.swap _ _ _), (by exact fun q => by cases q), rng_keep hS ((Below.refl u.heap.size u).alloc (Nat.le_refl _) _)⟩
    · simp only [updA, if_true, if_false, Bool.false_eq_true, Act.put, List.setIfInBounds_toArray, List.set_cons_zero, List.set_cons_succ]
      refine Or.inr ⟨4, [11, 12], rfl, by kernel_rfl, by simp, ?_⟩
      refine (AllReadyI.cons (by simp only [List.getElem?_toArray, List.getElem?_cons_zero, List.getElem?_cons_succ]; rfl) (fun K hK => ?_) (AllReadyI.cons (by simp only [List.getElem?_toArray, List.getElem?_cons_zero, List.getElem?_cons_succ]; rfl) (fun K hK => ?_) AllReadyI.nil))
      · go_simp
        refine (cclone_any (HCH.out.keep hM.below)).mono ?_
        rintro _ v ⟨cu, rfl, hO, hb⟩
        have hC2 := Chu.fresh hM hO
        obtain ⟨ca2, ck2, rfl⟩ := own_slice hO
        refine hK.out _ _ ⟨rng_keep hS hb, true, true, true, false, true, m4, m12, m13, ca2, ck2, rfl, rfl, rfl, (by exact fun _ => rfl), hM.keep hb, (by exact fun _ => hC2), rng_keep hS hb⟩
      · go_simp
        refine hK.out _ _ ⟨rng_keep hS ((Below.refl u.heap.size u).alloc (Nat.le_refl _) _), true, true, false, true, true, m4, u.heap.size, m13, ca, ck, rfl, rfl, rfl, (by exact fun _ => rfl), hM.make.perm (List.Perm.swap _ _ _), (by exact fun q => by cases q), rng_keep hS ((Below.refl u.heap.size u).alloc (Nat.le_refl _) _)⟩
    · simp only [updA, if_true, if_false, Bool.false_eq_true, Act.put, List.setIfInBounds_toArray, List.set_cons_zero, List.set_cons_succ]
      refine Or.inr ⟨4, [11, 13], rfl, by kernel_rfl, by simp, ?_⟩
      refine (AllReadyI.cons (by simp only [List.getElem?_toArray, List.getElem?_cons_zero, List.getElem?_cons_succ]; rfl) (fun K hK => ?_) (AllReadyI.cons (by simp only [List.getElem?_toArray, List.getElem?_cons_zero, List.getElem?_cons_succ]; rfl) (fun K hK => ?_) AllReadyI.nil))
      · go_simp
        refine (cclone_any (HCH.out.keep hM.below)).mono ?_
        rintro _ v ⟨cu, rfl, hO, hb⟩
        have hC2 := Chu.fresh hM hO
        obtain ⟨ca2, ck2, rfl⟩ := own_slice hO
        refine hK.out _ _ ⟨rng_keep hS hb, true, true, true, true, false, m4, m12, m13, ca2, ck2, rfl, rfl, rfl, (by exact fun _ => rfl), hM.keep hb, (by exact fun _ => hC2), rng_keep hS hb⟩
      · go_simp
        refine hK.out _ _ ⟨rng_keep hS ((Below.refl u.heap.size u).alloc (Nat.le_refl _) _), true, true, false, true, true, m4, m12, u.heap.size, ca, ck, rfl, rfl, rfl, (by exact fun _ => rfl), hM.make.perm ((List.Perm.swap _ _ _).trans (List.Perm.cons _ (List.Perm.swap _ _ _))), (by exact fun q => by cases q), rng_keep hS ((Below.refl u.heap.size u).alloc (Nat.le_refl _) _)⟩
    · simp only [updA, if_true, if_false, Bool.false_eq_true, Act.put, List.setIfInBounds_toArray, List.set_cons_zero, List.set_cons_succ]
      refine Or.inr ⟨3, [11], rfl, by kernel_rfl, by simp, ?_⟩
      refine (AllReadyI.cons (by simp only [List.getElem?_toArray, List.getElem?_cons_zero, List.getElem?_cons_succ]; rfl) (fun K hK => ?_) AllReadyI.nil)
      · go_simp
        refine (cclone_any (HCH.out.keep hM.below)).mono ?_
        rintro _ v ⟨cu, rfl, hO, hb⟩
        have hC2 := Chu.fresh hM hO
        obtain ⟨ca2, ck2, rfl⟩ := own_slice hO
        refine hK.out _ _ ⟨rng_keep hS hb, true, true, true, true, true, m4, m12, m13, ca2, ck2, rfl, rfl, rfl, (by exact fun _ => rfl), hM.keep hb, (by exact fun _ => hC2), rng_keep hS hb⟩
    · simp only [updA, if_true, if_false, Bool.false_eq_true, Act.put, List.setIfInBounds_toArray, List.set_cons_zero, List.set_cons_succ]
      refine Or.inr ⟨4, [12, 13], rfl, by kernel_rfl, by simp, ?_⟩
      refine (AllReadyI.cons (by simp only [List.getElem?_toArray, List.getElem?_cons_zero, List.getElem?_cons_succ]; rfl) (fun K hK => ?_) (AllReadyI.cons (by simp only [List.getElem?_toArray, List.getElem?_cons_zero, List.getElem?_cons_succ]; rfl) (fun K hK => ?_) AllReadyI.nil))
      · go_simp
        refine hK.out _ _ ⟨rng_keep hS ((Below.refl u.heap.size u).alloc (Nat.le_refl _) _), true, true, true, true, false, m4, u.heap.size, m13, ca, ck, rfl, rfl, rfl, (by exact fun _ => rfl), hM.make.perm (List.Perm.swap _ _ _), (by exact fun _ => (hC rfl).make.perm (List.Perm.swap _ _ _)), rng_keep hS ((Below.refl u.heap.size u).alloc (Nat.le_refl _) _)⟩
      · go_simp
        refine hK.out _ _ ⟨rng_keep hS ((Below.refl u.heap.size u).alloc (Nat.le_refl _) _), true, true, true, false, true, m4, m12, u.heap.size, ca, ck, rfl, rfl, rfl, (by exact fun _ => rfl), hM.make.perm (List.Perm.swap _ _ _), (by exact fun _ => (hC rfl).make.perm (List.Perm.swap _ _ _)), rng_keep hS ((Below.refl u.heap.size u).alloc (Nat.le_refl _) _)⟩
    · simp only [updA, if_true, if_false, Bool.false_eq_true, Act.put, List.setIfInBounds_toArray, List.set_cons_zero, List.set_cons_succ]
      refine Or.inr ⟨3, [12], rfl, by kernel_rfl, by simp, ?_⟩
      refine (AllReadyI.cons (by simp only [List.getElem?_toArray, List.getElem?_cons_zero, List.getElem?_cons_succ]; rfl) (fun K hK => ?_) AllReadyI.nil)
      · go_simp
        refine hK.out _ _ ⟨rng_keep hS ((Below.refl u.heap.size u).alloc (Nat.le_refl _) _), true, true, true, true, true, m4, u.heap.size, m13, ca, ck, rfl, rfl, rfl, (by exact fun _ => rfl), hM.make.perm (List.Perm.swap _ _ _), (by exact fun _ => (hC rfl).make.perm (List.Perm.swap _ _ _)), rng_keep hS ((Below.refl u.heap.size u).alloc (Nat.le_refl _) _)⟩
    · simp only [updA, if_true, if_false, Bool.false_eq_true, Act.put, List.setIfInBounds_toArray, List.set_cons_zero, List.set_cons_succ]
      refine Or.inr ⟨3, [13], rfl, by kernel_rfl, by simp, ?_⟩
      refine (AllReadyI.cons (by simp only [List.getElem?_toArray, List.getElem?_cons_zero, List.getElem?_cons_succ]; rfl) (fun K hK => ?_) AllReadyI.nil)
      · go_simp
        refine hK.out _ _ ⟨rng_keep hS ((Below.refl u.heap.size u).alloc (Nat.le_refl _) _), true, true, true, true, true, m4, m12, u.heap.size, ca, ck, rfl, rfl, rfl, (by exact fun _ => rfl), hM.make.perm ((List.Perm.swap _ _ _).trans (List.Perm.cons _ (List.Perm.swap _ _ _))), (by exact fun _ => (hC rfl).make.perm ((List.Perm.swap _ _ _).trans (List.Perm.cons _ (List.Perm.swap _ _ _)))), rng_keep hS ((Below.refl u.heap.size u).alloc (Nat.le_refl _) _)⟩
    · simp only [updA, if_true, Act.put, List.setIfInBounds_toArray, List.set_cons_zero, List.set_cons_succ]
      refine Or.inl ?_
      have hM' : Mps w u [m4, m12, m13] := hM
      have hC' : Chu w u [m4, m12, m13] (.slice ca C.length ck) C := hC rfl
      clear hM hC h117
      change wpAnyH _ _ _ _ _ 3 _ _ _
      refine wpAnyH_take (i := 14) (v := (.agg (dv0 sl rm m4 m12 m13 (.slice ca C.length ck)).cells.toArray)) (by simp only [List.getElem?_toArray, List.getElem?_cons_zero, List.getElem?_cons_succ]; rfl) (by kernel_rfl) (by kernel_rfl) (by kernel_rfl) (by exact fun _ _ _ h => h) (y_bd (by kernel_rfl) _ _ rfl _ (HBD.out m4 m12 m13 _ _ _)) hS ?_
      try simp only [Act.put, List.setIfInBounds_toArray, List.set_cons_zero, List.set_cons_succ]
      have hN := new0_leaf (sl := sl) (rm := rm) (m1 := m4) (m2 := m12) (m3 := m13) hM' hC' (by simp) (by simp) (by simp) hM'.nd
      have hS2 := rng_keep hS ((Below.refl u.heap.size u).alloc (Nat.le_refl _) (.cells (dv0 sl rm m4 m12 m13 (.slice ca C.length ck)).cells.toArray 123))
      generalize (dv0 sl rm m4 m12 m13 (.slice ca C.length ck)).cells.toArray = D at hN hS2 ⊢
      refine wpAnyH_ready (rs := [15]) (by kernel_rfl) (by simp) ?_
      refine AllReadyH.cons (by simp only [List.getElem?_toArray, List.getElem?_cons_zero, List.getElem?_cons_succ]; rfl) (fun K hK => ?_) AllReadyH.nil
      go_simp
      refine hK.out _ _ hS2 (fun hS => ?_)
      clear hK K
      try simp only [List.setIfInBounds_toArray, List.set_cons_zero, List.set_cons_succ]
      refine wpAnyH_take (i := 16) (v := (.pointer (some ⟨u.heap.size, 0, none⟩))) (by simp only [List.getElem?_toArray, List.getElem?_cons_zero, List.getElem?_cons_succ]; rfl) (by kernel_rfl) (by kernel_rfl) (by kernel_rfl) (by exact fun _ _ _ h => h) (y_assign (by kernel_rfl) _ rfl _ rfl) hS ?_
      try simp only [Act.put, List.setIfInBounds_toArray, List.set_cons_zero, List.set_cons_succ]
      refine wpAnyH_done (by kernel_rfl) ?_ _
      try go_wp2_with fail
      go_meet
      exact ⟨_, _, _, _, _, rfl, hN, hS2⟩
  case rest =>
    obtain ⟨g, m1, m2, m3, cu, rfl, hN, hr⟩ := hcut
    have HN : Hid (New0 w wc g m1 m2 m3 cu sl rm C) := hN
    obtain ⟨_, _, _, _, k2⟩ := HF.out _ hr
    clear hN hr HF HB HR H1 H2 H3 H4 HI HI3 HCH
    go_wp2_with fail
    refine wp_loop_once ?_
    go_wp2_with fail
    go_ret2
    exact ⟨g, m1, m2, m3, cu, rfl, HN.out⟩
end Go.Proofs.YtpmdjopojcgpeaaGreatDoor
