import Derived.Test.YtpmdjopojcgpeaaGreatDoorH1q
/-
  (*cache).hasOther, get. (Written by gen_h2.py.)
-/
namespace Go.Proofs.YtpmdjopojcgpeaaGreatDoor
open Go.RowKit Go.Maps Go.ChangeMaps

/-- do other bytes stand there? -/
def othr (x : Option (List Nat)) (s : List Nat) : Bool := match x with
  | none => false
  | some y => !decide (y = s)
set_option maxRecDepth 100000 in
set_option maxHeartbeats 3200000 in
theorem hasOther_any {w : World} {E : Nat → Prop} {sb g bk : Nat} {most : Int} {ord : Value} {mb mq N : Nat} {D : DataW Value} {V : List Nat → Value} {bl : List Nat → Option (List Nat)} {cnt : Nat} (hs : Stb w sb g bk most ord mb mq) (hb : Bl w E mb N D V bl cnt) {key : List Nat} (hk : IsH key) {sa : Option Addr} {m sc : Nat} {s : List Nat} (hv : Vb w (.slice sa m sc) s) :
    Calls Tryz.prog 47 #[.pointer (some ⟨sb, 2, none⟩), .agg (bv key).toArray, .slice sa m sc] w fun e w' => e = .returned (.bool (othr (bl key) s)) ∧ Below w.heap.size w w' := by
  obtain ⟨W, eW⟩ : ∃ W, W = w.alloc (.cells (bv key).toArray 38) := ⟨_, rfl⟩
  have b0 : Below w.heap.size w W := by rw [eW]; exact (Below.refl _ _).alloc (Nat.le_refl _) _
  have hkb : W.rangeAt w.heap.size 0 (bv key) := by rw [eW]; exact rng_new w _ _
  have HW : Hid (∀ u, Below W.heap.size W u → Stb u sb g bk most ord mb mq ∧ Bl u E mb N D V bl cnt ∧ u.rangeAt w.heap.size 0 (bv key) ∧ Below w.heap.size w u) := fun u b2 => by
    have b := ch b0 b2
    exact ⟨hs.keep b, hb.turn (G := fun _ => False) (Turn.of_below b) (fun q => q) (Off.none _ _), rng_keep hkb b2, b⟩
  have HK : Hid (IsH key) := hk
  obtain ⟨q, hq⟩ : ∃ q, q = (bl key).isSome := ⟨_, rfl⟩
  have HQ : Hid (q = (bl key).isSome) := hq
  obtain ⟨xx, exx⟩ : ∃ x, x = (bl key).getD [] := ⟨_, rfl⟩
  have HXX : Hid (xx = (bl key).getD []) := exx
  have hdat : Dat w E (V key) xx := by rw [exx]; exact hb.dat key hk
  obtain ⟨va, vc, ev⟩ := own_slice hdat.own
  have HL : Hid (∀ u, Below W.heap.size W u → (Instr.lookup 97 (.map (some mb)) (.agg (bv key).toArray) true).run Tryz.prog u = .ok (.tuple #[.slice va xx.length vc, .bool q]) u) := fun u hu => by
    have := (HW.out u hu).2.1.mh.look_ok Tryz.underlying97 zeroMb HK.out
    rw [(HW.out u hu).2.1.has key HK.out, ← hq, ev] at this
    exact this
  have HD : Hid (∀ u, Below w.heap.size w u → Dat u E (.slice va xx.length vc) xx) := fun u hu => by
    rw [← ev]
    exact hdat.off (G := fun _ => False) (Turn.of_below hu) (Off.none _ _)
  have HV : Hid (Vb w (.slice sa m sc) s) := hv
  clear hv
  clear hs hb b0 hkb hq ev hdat exx
  go_enter Tryz.func47, Tryz.ntmps47
  go_wp2_with fail
  rw [← eW]
  clear eW
  refine wp_region_held_drew (S := fun u => Below W.heap.size W u) (by kernel_rfl) (by exact (Below.refl _ _).drew) ?_
  intro hS
  change wpAnyH _ _ _ _ _ 11 _ _ _
  refine wpAnyH_take (i := 0) (v := (.pointer (some ⟨sb, 2, none⟩))) (by simp only [List.getElem?_toArray, List.getElem?_cons_zero]; rfl) (by kernel_rfl) (by kernel_rfl) (by kernel_rfl) (by exact fun _ _ _ h => h) (y_move (by kernel_rfl) _ rfl _ rfl) hS ?_
  try simp only [Act.put, List.setIfInBounds_toArray, List.set_cons_zero, List.set_cons_succ]
  refine wpAnyH_take (i := 1) (v := (.pointer (some ⟨sb, 2, none⟩))) (by simp only [List.getElem?_toArray, List.getElem?_cons_zero, List.getElem?_cons_succ]; rfl) (by kernel_rfl) (by kernel_rfl) (by kernel_rfl) (by exact fun _ _ _ h => h) (y_nil (by kernel_rfl) _ rfl _ rfl) hS ?_
  try simp only [Act.put, List.setIfInBounds_toArray, List.set_cons_zero, List.set_cons_succ]
  refine wpAnyH_take (i := 2) (v := (.pointer (some ⟨sb, 2 + 2, none⟩))) (by simp only [List.getElem?_toArray, List.getElem?_cons_zero, List.getElem?_cons_succ]; rfl) (by kernel_rfl) (by kernel_rfl) (by kernel_rfl) (by exact fun _ _ _ h => h) (y_f_Cch2 (by kernel_rfl) _ rfl _ _ rfl) hS ?_
  try simp only [Act.put, List.setIfInBounds_toArray, List.set_cons_zero, List.set_cons_succ]
  refine wpAnyH_take (i := 3) (v := (.map (some mb))) (by simp only [List.getElem?_toArray, List.getElem?_cons_zero, List.getElem?_cons_succ]; rfl) (by kernel_rfl) (by kernel_rfl) (by kernel_rfl) (by exact fun _ _ _ h => h) (y_l_mb (by kernel_rfl) _ rfl _ _ rfl _ (fun u hs => (HW.out u hs).1.at_.2.2.2.2.1)) hS ?_
  try simp only [Act.put, List.setIfInBounds_toArray, List.set_cons_zero, List.set_cons_succ]
  refine wpAnyH_take (i := 4) (v := (.agg (bv key).toArray)) (by simp only [List.getElem?_toArray, List.getElem?_cons_zero, List.getElem?_cons_succ]; rfl) (by kernel_rfl) (by kernel_rfl) (by kernel_rfl) (by exact fun _ _ _ h => h) (y_s_Hash (by kernel_rfl) _ rfl _ _ rfl key HK.out.1 (fun u hs => (HW.out u hs).2.2.1)) hS ?_
  try simp only [Act.put, List.setIfInBounds_toArray, List.set_cons_zero, List.set_cons_succ]
  refine wpAnyH_take (i := 5) (v := (.tuple #[.slice va xx.length vc, .bool q])) (by simp only [List.getElem?_toArray, List.getElem?_cons_zero, List.getElem?_cons_succ]; rfl) (by kernel_rfl) (by kernel_rfl) (by kernel_rfl) (by exact fun _ _ _ h => h) (y_look (by kernel_rfl) _ _ _ _ rfl _ _ _ rfl rfl (fun u hs => HL.out u hs)) hS ?_
  try simp only [Act.put, List.setIfInBounds_toArray, List.set_cons_zero, List.set_cons_succ]
  refine wpAnyH_take (i := 6) (v := (.tuple #[.slice va xx.length vc, .bool q])) (by simp only [List.getElem?_toArray, List.getElem?_cons_zero, List.getElem?_cons_succ]; rfl) (by kernel_rfl) (by kernel_rfl) (by kernel_rfl) (by exact fun _ _ _ h => h) (y_move (by kernel_rfl) _ rfl _ rfl) hS ?_
  try simp only [Act.put, List.setIfInBounds_toArray, List.set_cons_zero, List.set_cons_succ]
  refine wpAnyH_take (i := 7) (v := (.slice va xx.length vc)) (by simp only [List.getElem?_toArray, List.getElem?_cons_zero, List.getElem?_cons_succ]; rfl) (by kernel_rfl) (by kernel_rfl) (by kernel_rfl) (by exact fun _ _ _ h => h) (y_ext (by kernel_rfl) _ _ rfl _ _ rfl rfl) hS ?_
  try simp only [Act.put, List.setIfInBounds_toArray, List.set_cons_zero, List.set_cons_succ]
  refine wpAnyH_take (i := 8) (v := (.bool q)) (by simp only [List.getElem?_toArray, List.getElem?_cons_zero, List.getElem?_cons_succ]; rfl) (by kernel_rfl) (by kernel_rfl) (by kernel_rfl) (by exact fun _ _ _ h => h) (y_ext (by kernel_rfl) _ _ rfl _ _ rfl rfl) hS ?_
  try simp only [Act.put, List.setIfInBounds_toArray, List.set_cons_zero, List.set_cons_succ]
  refine wpAnyH_take (i := 9) (v := (.slice va xx.length vc)) (by simp only [List.getElem?_toArray, List.getElem?_cons_zero, List.getElem?_cons_succ]; rfl) (by kernel_rfl) (by kernel_rfl) (by kernel_rfl) (by exact fun _ _ _ h => h) (y_assign (by kernel_rfl) _ rfl _ rfl) hS ?_
  try simp only [Act.put, List.setIfInBounds_toArray, List.set_cons_zero, List.set_cons_succ]
  refine wpAnyH_take (i := 10) (v := (.bool q)) (by simp only [List.getElem?_toArray, List.getElem?_cons_zero, List.getElem?_cons_succ]; rfl) (by kernel_rfl) (by kernel_rfl) (by kernel_rfl) (by exact fun _ _ _ h => h) (y_assign (by kernel_rfl) _ rfl _ rfl) hS ?_
  try simp only [Act.put, List.setIfInBounds_toArray, List.set_cons_zero, List.set_cons_succ]
  refine wpAnyH_done (by kernel_rfl) ?_ _
  have HF : Hid (Below w.heap.size w W.drew) := (HW.out _ hS).2.2.2
  have HEQ : Hid (Calls Tryz.prog 91 #[.slice va xx.length vc, .slice sa m sc] W.drew fun e w' => e = .returned (.bool (decide (xx = s))) ∧ w' = W.drew) := by
    obtain ⟨a1, b1, o1, k1, e1, v1, _⟩ := (HD.out _ HF.out).vb
    obtain ⟨a2, b2, o2, k2, e2, v2, _⟩ := HV.out.keep HF.out
    have := bEqual_any (c := k1) (c' := k2) v1 v2
    rw [← e1, ← e2] at this
    exact this
  obtain ⟨rr, hrr⟩ : ∃ r, r = decide (xx = s) := ⟨_, rfl⟩
  have HRR : Hid (rr = decide (xx = s)) := hrr
  rw [← hrr] at HEQ
  clear hS HW HL HD hrr
  cases q with
  | false =>
    go_wp2_with fail
    go_ret
    refine ⟨?_, HF.out⟩
    have hn : bl key = none := by
      have := HQ.out
      cases hbl : bl key with
      | none => rfl
      | some x => rw [hbl] at this; cases this
    rw [hn]
    rfl
  | true =>
    go_wp2_with (go_at_call 91; refine HEQ.out.mono ?_; rintro _ u2 ⟨rfl, rfl⟩)
    go_ret
    refine ⟨?_, HF.out⟩
    have hsx : bl key = some xx := by
      have := HQ.out
      cases hbl : bl key with
      | none => rw [hbl] at this; cases this
      | some x =>
        have e := HXX.out
        rw [hbl] at e
        rw [e]
        rfl
    rw [hsx]
    show _ = Ending.returned (.bool (!decide (xx = s)))
    rw [← HRR.out]
    rfl
set_option maxRecDepth 100000 in
set_option maxHeartbeats 3200000 in
theorem cget_any {w : World} {E : Nat → Prop} {sb g bk : Nat} {most : Int} {ord : Value} {mb mq N : Nat} {D : DataW Value} {V : List Nat → Value} {bl : List Nat → Option (List Nat)} {cnt : Nat} (hs : Stb w sb g bk most ord mb mq) (hb : Bl w E mb N D V bl cnt) {key : List Nat} (hk : IsH key) :
    Calls Tryz.prog 41 #[.pointer (some ⟨sb, 2, none⟩), .agg (bv key).toArray] w fun e w' => ∃ u, e = .returned (.tuple #[u, .bool (bl key).isSome]) ∧ w'.ownsRow w.heap.size 5 1 u ((bl key).getD []).length (bv ((bl key).getD [])) ∧ Below w.heap.size w w' := by
  obtain ⟨W, eW⟩ : ∃ W, W = w.alloc (.cells (bv key).toArray 38) := ⟨_, rfl⟩
  have b0 : Below w.heap.size w W := by rw [eW]; exact (Below.refl _ _).alloc (Nat.le_refl _) _
  have hkb : W.rangeAt w.heap.size 0 (bv key) := by rw [eW]; exact rng_new w _ _
  have HW : Hid (∀ u, Below W.heap.size W u → Stb u sb g bk most ord mb mq ∧ Bl u E mb N D V bl cnt ∧ u.rangeAt w.heap.size 0 (bv key) ∧ Below w.heap.size w u) := fun u b2 => by
    have b := ch b0 b2
    exact ⟨hs.keep b, hb.turn (G := fun _ => False) (Turn.of_below b) (fun q => q) (Off.none _ _), rng_keep hkb b2, b⟩
  have HK : Hid (IsH key) := hk
  obtain ⟨q, hq⟩ : ∃ q, q = (bl key).isSome := ⟨_, rfl⟩
  have HQ : Hid (q = (bl key).isSome) := hq
  obtain ⟨xx, exx⟩ : ∃ x, x = (bl key).getD [] := ⟨_, rfl⟩
  have HXX : Hid (xx = (bl key).getD []) := exx
  have hdat : Dat w E (V key) xx := by rw [exx]; exact hb.dat key hk
  obtain ⟨va, vc, ev⟩ := own_slice hdat.own
  have HL : Hid (∀ u, Below W.heap.size W u → (Instr.lookup 97 (.map (some mb)) (.agg (bv key).toArray) true).run Tryz.prog u = .ok (.tuple #[.slice va xx.length vc, .bool q]) u) := fun u hu => by
    have := (HW.out u hu).2.1.mh.look_ok Tryz.underlying97 zeroMb HK.out
    rw [(HW.out u hu).2.1.has key HK.out, ← hq, ev] at this
    exact this
  have HD : Hid (∀ u, Below w.heap.size w u → Dat u E (.slice va xx.length vc) xx) := fun u hu => by
    rw [← ev]
    exact hdat.off (G := fun _ => False) (Turn.of_below hu) (Off.none _ _)
  clear hs hb b0 hkb hq ev hdat exx
  go_enter Tryz.func41, Tryz.ntmps41
  go_wp2_with fail
  rw [← eW]
  clear eW
  refine wp_region_held_drew (S := fun u => Below W.heap.size W u) (by kernel_rfl) (by exact (Below.refl _ _).drew) ?_
  intro hS
  change wpAnyH _ _ _ _ _ 11 _ _ _
  refine wpAnyH_take (i := 0) (v := (.pointer (some ⟨sb, 2, none⟩))) (by simp only [List.getElem?_toArray, List.getElem?_cons_zero]; rfl) (by kernel_rfl) (by kernel_rfl) (by kernel_rfl) (by exact fun _ _ _ h => h) (y_move (by kernel_rfl) _ rfl _ rfl) hS ?_
  try simp only [Act.put, List.setIfInBounds_toArray, List.set_cons_zero, List.set_cons_succ]
  refine wpAnyH_take (i := 1) (v := (.pointer (some ⟨sb, 2, none⟩))) (by simp only [List.getElem?_toArray, List.getElem?_cons_zero, List.getElem?_cons_succ]; rfl) (by kernel_rfl) (by kernel_rfl) (by kernel_rfl) (by exact fun _ _ _ h => h) (y_nil (by kernel_rfl) _ rfl _ rfl) hS ?_
  try simp only [Act.put, List.setIfInBounds_toArray, List.set_cons_zero, List.set_cons_succ]
  refine wpAnyH_take (i := 2) (v := (.pointer (some ⟨sb, 2 + 2, none⟩))) (by simp only [List.getElem?_toArray, List.getElem?_cons_zero, List.getElem?_cons_succ]; rfl) (by kernel_rfl) (by kernel_rfl) (by kernel_rfl) (by exact fun _ _ _ h => h) (y_f_Cch2 (by kernel_rfl) _ rfl _ _ rfl) hS ?_
  try simp only [Act.put, List.setIfInBounds_toArray, List.set_cons_zero, List.set_cons_succ]
  refine wpAnyH_take (i := 3) (v := (.map (some mb))) (by simp only [List.getElem?_toArray, List.getElem?_cons_zero, List.getElem?_cons_succ]; rfl) (by kernel_rfl) (by kernel_rfl) (by kernel_rfl) (by exact fun _ _ _ h => h) (y_l_mb (by kernel_rfl) _ rfl _ _ rfl _ (fun u hs => (HW.out u hs).1.at_.2.2.2.2.1)) hS ?_
  try simp only [Act.put, List.setIfInBounds_toArray, List.set_cons_zero, List.set_cons_succ]
  refine wpAnyH_take (i := 4) (v := (.agg (bv key).toArray)) (by simp only [List.getElem?_toArray, List.getElem?_cons_zero, List.getElem?_cons_succ]; rfl) (by kernel_rfl) (by kernel_rfl) (by kernel_rfl) (by exact fun _ _ _ h => h) (y_s_Hash (by kernel_rfl) _ rfl _ _ rfl key HK.out.1 (fun u hs => (HW.out u hs).2.2.1)) hS ?_
  try simp only [Act.put, List.setIfInBounds_toArray, List.set_cons_zero, List.set_cons_succ]
  refine wpAnyH_take (i := 5) (v := (.tuple #[.slice va xx.length vc, .bool q])) (by simp only [List.getElem?_toArray, List.getElem?_cons_zero, List.getElem?_cons_succ]; rfl) (by kernel_rfl) (by kernel_rfl) (by kernel_rfl) (by exact fun _ _ _ h => h) (y_look (by kernel_rfl) _ _ _ _ rfl _ _ _ rfl rfl (fun u hs => HL.out u hs)) hS ?_
  try simp only [Act.put, List.setIfInBounds_toArray, List.set_cons_zero, List.set_cons_succ]
  refine wpAnyH_take (i := 6) (v := (.tuple #[.slice va xx.length vc, .bool q])) (by simp only [List.getElem?_toArray, List.getElem?_cons_zero, List.getElem?_cons_succ]; rfl) (by kernel_rfl) (by kernel_rfl) (by kernel_rfl) (by exact fun _ _ _ h => h) (y_move (by kernel_rfl) _ rfl _ rfl) hS ?_
  try simp only [Act.put, List.setIfInBounds_toArray, List.set_cons_zero, List.set_cons_succ]
  refine wpAnyH_take (i := 7) (v := (.slice va xx.length vc)) (by simp only [List.getElem?_toArray, List.getElem?_cons_zero, List.getElem?_cons_succ]; rfl) (by kernel_rfl) (by kernel_rfl) (by kernel_rfl) (by exact fun _ _ _ h => h) (y_ext (by kernel_rfl) _ _ rfl _ _ rfl rfl) hS ?_
  try simp only [Act.put, List.setIfInBounds_toArray, List.set_cons_zero, List.set_cons_succ]
  refine wpAnyH_take (i := 8) (v := (.bool q)) (by simp only [List.getElem?_toArray, List.getElem?_cons_zero, List.getElem?_cons_succ]; rfl) (by kernel_rfl) (by kernel_rfl) (by kernel_rfl) (by exact fun _ _ _ h => h) (y_ext (by kernel_rfl) _ _ rfl _ _ rfl rfl) hS ?_
  try simp only [Act.put, List.setIfInBounds_toArray, List.set_cons_zero, List.set_cons_succ]
  refine wpAnyH_take (i := 9) (v := (.slice va xx.length vc)) (by simp only [List.getElem?_toArray, List.getElem?_cons_zero, List.getElem?_cons_succ]; rfl) (by kernel_rfl) (by kernel_rfl) (by kernel_rfl) (by exact fun _ _ _ h => h) (y_assign (by kernel_rfl) _ rfl _ rfl) hS ?_
  try simp only [Act.put, List.setIfInBounds_toArray, List.set_cons_zero, List.set_cons_succ]
  refine wpAnyH_take (i := 10) (v := (.bool q)) (by simp only [List.getElem?_toArray, List.getElem?_cons_zero, List.getElem?_cons_succ]; rfl) (by kernel_rfl) (by kernel_rfl) (by kernel_rfl) (by exact fun _ _ _ h => h) (y_assign (by kernel_rfl) _ rfl _ rfl) hS ?_
  try simp only [Act.put, List.setIfInBounds_toArray, List.set_cons_zero, List.set_cons_succ]
  refine wpAnyH_done (by kernel_rfl) ?_ _
  have HF : Hid (Below w.heap.size w W.drew) := (HW.out _ hS).2.2.2
  have HCL : Hid (Calls Tryz.prog 63 #[.slice va xx.length vc] W.drew fun e w' => ∃ u, e = .returned u ∧ Ans W.drew w' u xx) := bclone_any (HD.out _ HF.out).vb
  clear hS HW HL HD
  go_wp2_with (go_at_call 63; refine HCL.out.mono ?_; rintro _ u2 ⟨u, rfl, hA⟩; have HA : Hid (Ans W.drew u2 u xx) := hA; clear hA HCL)
  go_ret2
  have exx := HXX.out
  have eq := HQ.out
  subst exx
  subst eq
  exact ⟨u, rfl, own_rebase HA.out.own (fun b hb => Nat.le_trans HF.out.size (HA.out.own.lt b hb).1), ch HF.out HA.out.below⟩
end Go.Proofs.YtpmdjopojcgpeaaGreatDoor
