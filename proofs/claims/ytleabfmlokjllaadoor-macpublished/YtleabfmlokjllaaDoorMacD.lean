/-
  mac: Copy.
-/
import Derived.Test.YtleabfmlokjllaaDoorMacC
namespace Go.Proofs.YtleabfmlokjllaaDoor
open Go.RowKit

theorem kd_of {w : World} {p : Nat} {B : Nat → Nat} {m : Nat} {X R : Nat → Nat} {s : W8} (hs : s = folds (cat 64 (msk 54 B) X) ((64 + m) / 64)) (hp : w.heap[p]? = some (.cells (kA s R (64 + m) (msk 92 B)) 61 (0, 0)))
    (hR : ∀ i, R i < 256) (hq : ∀ i, i < (64 + m) % 64 → R i = cat 64 (msk 54 B) X (64 * ((64 + m) / 64) + i)) (hB : ∀ i, B i < 256) (hX : ∀ i, X i < 256) : Kd w p B m X :=
  ⟨⟨⟨R, ⟨_, hp, kA_size _ _ _ _, fun i hi => by subst hs; exact kA_cell _ _ _ _ i hi⟩, hR, hq⟩, cat_lt (msk_lt (by decide) hB) hX⟩, hB, hX⟩
theorem load64 {w : World} {g o : Nat} {B : Nat → Nat} (h : ∀ i, i < 64 → w.cell? ⟨g, o + i, none⟩ = some (.int .u8 (B i))) : (Instr.loadAt 54 (.pointer (some ⟨g, o, none⟩))).run Tryd.prog w = .ok (.agg (blkA B)) w :=
  run_loadAt_mid w g o 54 (blkL B) _ (blk_range h) Tryd.underlying54 rfl (blkL_len B)
theorem load73 {E : Env} {w : World} {p : Nat} {s : W8} {R : Nat → Nat} {n : Nat} (h : StRow E w p s R n) : (Instr.loadAt 59 (.pointer (some ⟨p, 0, none⟩))).run Tryd.prog w = .ok (.agg (stL s R n).toArray) w :=
  run_loadAt_mid w p 0 59 (stL s R n) _ (StRow.range h) Tryd.underlying59 rfl (stL_len s R n)

theorem yieldsIf_build {P : Program} {ops : Array Oper} {S : World → Prop} {op : Oper} {a : Act} (hw : Region.wanted op (yielded ops a.tmps) = true) (t : TypeId) (parts : Array (Nat × Operand)) (ho : op.op = .build t parts) (cells : Array Value)
    (hb : P.built t (parts.map fun (i, x) => (i, a.eval x)).toList = some cells) : YieldsIf P ops S op (.agg cells) a :=
  .inl ⟨hw, fun w _ => by
    unfold execOp
    simp only [ho, Sem.run_bind, run_build w t _ cells hb, Result.andThen_ok]
    rfl⟩
theorem wpAnyH_weaken {P : Program} {ops : Array Oper} {Q : Exit → Act → World → Prop} {md : Region.Mode} {S S' : World → Prop} (h : ∀ w, S' w → S w) : ∀ (fuel : Nat) (listed : Array Bool) (a : Act) (w : World), wpAnyH P md ops Q S' fuel listed a w → wpAnyH P md ops Q S fuel listed a w
  | 0, _, _, _, k => k
  | fuel + 1, _, _, _, k => ⟨k.1, fun i hi => wpOp_mono (fun a' w' h' => ⟨h w' h'.1, wpAnyH_weaken h fuel _ a' w' h'.2⟩) (k.2 i hi)⟩

set_option maxRecDepth 100000 in
set_option maxHeartbeats 1600000 in
theorem mcopy_any (w : World) (p : Nat) (B : Nat → Nat) (m : Nat) (X : Nat → Nat) (h : Kd w p B m X) :
    Calls Tryd.prog 12 #[.pointer (some ⟨p, 0, none⟩)] w fun e w' => ∃ q, e = .returned (.pointer (some ⟨q, 0, none⟩)) ∧ w.heap.size ≤ q ∧ Kd w' q B m X ∧ Below w.heap.size w w' := by
  have bdr : Below w.heap.size w w.drew := (Below.refl _ _).drew
  have cp := copy_any w.drew p (64 + m) _ (h.st.below bdr)
  have r0 : w.drew.rangeAt p 73 (blkL (msk 92 B)) := blk_range (h.below bdr).outer
  obtain ⟨s, hs⟩ : ∃ s, s = folds (cat 64 (msk 54 B) X) ((64 + m) / 64) := ⟨_, rfl⟩
  have HK : Hid (Kd w p B m X) := h
  have Hs : Hid (s = folds (cat 64 (msk 54 B) X) ((64 + m) / 64)) := hs
  clear h bdr hs
  go_enter Tryd.func12, Tryd.ntmps12
  go_wp2_with fail
  refine wp_region_held_drew (S := fun w' => w'.rangeAt p 73 (blkL (msk 92 B))) (by kernel_rfl) r0 ?_
  intro hS
  change wpAnyH _ _ _ _ _ 13 _ _ _
  refine wpAnyH_take (i := 0) (v := ?_) (by simp only [List.getElem?_toArray, List.getElem?_cons_zero]; rfl) (by kernel_rfl) (by kernel_rfl) (by kernel_rfl) (by exact fun _ _ _ h => h) (Or.inl ⟨by rfl, ?_⟩) hS ?_
  rotate_left
  · intro w' _
    go_simp
    try with_reducible rfl
  refine wpAnyH_take (i := 1) (v := ?_) (by simp only [List.getElem?_toArray, List.getElem?_cons_zero, List.getElem?_cons_succ]; rfl) (by kernel_rfl) (by kernel_rfl) (by kernel_rfl) (by exact fun _ _ _ h => h) (Or.inl ⟨by rfl, ?_⟩) hS ?_
  rotate_left
  · intro w' _
    go_simp
    try with_reducible rfl
  refine wpAnyH_take (i := 2) (v := ?_) (by simp only [List.getElem?_toArray, List.getElem?_cons_zero, List.getElem?_cons_succ]; rfl) (by kernel_rfl) (by kernel_rfl) (by kernel_rfl) (by exact fun _ _ _ h => h) (Or.inl ⟨by rfl, ?_⟩) hS ?_
  rotate_left
  · intro w' _
    go_simp
    try with_reducible rfl
  refine wpAnyH_take (i := 6) (v := ?_) (by simp only [List.getElem?_toArray, List.getElem?_cons_zero, List.getElem?_cons_succ]; rfl) (by kernel_rfl) (by kernel_rfl) (by kernel_rfl) (by exact fun _ _ _ h => h) (Or.inl ⟨by rfl, ?_⟩) hS ?_
  rotate_left
  · intro w' _
    go_simp
    try with_reducible rfl
  refine wpAnyH_take (i := 7) (v := ?_) (by simp only [List.getElem?_toArray, List.getElem?_cons_zero, List.getElem?_cons_succ]; rfl) (by kernel_rfl) (by kernel_rfl) (by kernel_rfl) (by exact fun _ _ _ h => h) (Or.inl ⟨by rfl, ?_⟩) hS ?_
  rotate_left
  · intro w' _
    go_simp
    try with_reducible rfl
  refine wpAnyH_take (i := 8) (v := ?_) (by simp only [List.getElem?_toArray, List.getElem?_cons_zero, List.getElem?_cons_succ]; rfl) (by kernel_rfl) (by kernel_rfl) (by kernel_rfl) (by exact fun _ _ _ h => h) (Or.inl ⟨by rfl, ?_⟩) hS ?_
  rotate_left
  · intro w' _
    go_simp
    try with_reducible rfl
  refine wpAnyH_take (i := 9) (by simp only [List.getElem?_toArray, List.getElem?_cons_zero, List.getElem?_cons_succ]; rfl) (by kernel_rfl) (by kernel_rfl) (by kernel_rfl) (by exact fun _ _ _ h => h) (yieldsIf_load_mid (by rfl) _ _ rfl _ _ rfl _ _ (fun _ h => h) Tryd.underlying54 rfl (blkL_len _)) hS ?_
  refine wpAnyH_ready (rs := [3]) (by kernel_rfl) (by simp) ?_
  refine AllReadyH.cons (by simp only [List.getElem?_toArray, List.getElem?_cons_zero, List.getElem?_cons_succ]; rfl) (fun K hK => ?_) AllReadyH.nil
  go_simp
  refine cp.mono ?_
  rintro _ w1 ⟨rfl, st1, hb1⟩
  obtain ⟨R, hr, hR, hq⟩ := st1.ex
  rw [← Hs.out] at hr
  have b1 : Below w.heap.size w w1 := Below.trans (Below.drew (Below.refl _ _)) hb1
  have r1 : w1.rangeAt p 73 (blkL (msk 92 B)) := blk_range (HK.out.below b1).outer
  have r2 : w1.rangeAt w.heap.size 0 (stL s R (64 + m)) := StRow.range hr
  have hbu := built61 s R (64 + m) (msk 92 B)
  have HR : Hid ((∀ i, R i < 256) ∧ ∀ i, i < (64 + m) % 64 → R i = cat 64 (msk 54 B) X (64 * ((64 + m) / 64) + i)) := ⟨hR, hq⟩
  have HB : Hid (Below w.heap.size w w1) := b1
  clear hR hq b1 hb1 hr st1 cp
  refine hK.out _ _ r1 (fun _ => ?_)
  clear hK K hS
  refine wpAnyH_weaken (S' := fun w' => w'.rangeAt w.heap.size 0 (stL s R (64 + m)) ∧ w'.rangeAt p 73 (blkL (msk 92 B))) (fun _ h => h.2) _ _ _ _ ?_
  have hS : w1.rangeAt w.heap.size 0 (stL s R (64 + m)) ∧ w1.rangeAt p 73 (blkL (msk 92 B)) := ⟨r2, r1⟩
  refine wpAnyH_take (i := 4) (v := ?_) (by simp only [List.getElem?_toArray, List.getElem?_cons_zero, List.getElem?_cons_succ]; rfl) (by kernel_rfl) (by kernel_rfl) (by kernel_rfl) (by exact fun _ _ _ h => h) (Or.inl ⟨by rfl, ?_⟩) hS ?_
  rotate_left
  · intro w' _
    go_simp
    try with_reducible rfl
  refine wpAnyH_take (i := 5) (by simp only [List.getElem?_toArray, List.getElem?_cons_zero, List.getElem?_cons_succ]; rfl) (by kernel_rfl) (by kernel_rfl) (by kernel_rfl) (by exact fun _ _ _ h => h) (yieldsIf_load_mid (by rfl) _ _ rfl _ _ rfl _ _ (fun _ h => h.1) Tryd.underlying59 rfl (stL_len _ _ _)) hS ?_
  refine wpAnyH_take (i := 10) (by simp only [List.getElem?_toArray, List.getElem?_cons_zero, List.getElem?_cons_succ]; rfl) (by kernel_rfl) (by kernel_rfl) (by kernel_rfl) (by exact fun _ _ _ h => h) (yieldsIf_build (by rfl) _ _ rfl _ (by simp only [List.map_toArray, List.map_cons, List.map_nil]; exact hbu)) hS ?_
  refine wpAnyH_ready (rs := [11]) (by kernel_rfl) (by simp) ?_
  refine AllReadyH.cons (by simp only [List.getElem?_toArray, List.getElem?_cons_zero, List.getElem?_cons_succ]; rfl) (fun K hK => ?_) AllReadyH.nil
  go_simp
  refine hK.out _ _ ⟨World.rangeAt_alloc r2 _, World.rangeAt_alloc r1 _⟩ (fun hS => ?_)
  clear hK K
  refine wpAnyH_take (i := 12) (v := ?_) (by simp only [List.getElem?_toArray, List.getElem?_cons_zero, List.getElem?_cons_succ]; rfl) (by kernel_rfl) (by kernel_rfl) (by kernel_rfl) (by exact fun _ _ _ h => h) (Or.inl ⟨by rfl, ?_⟩) hS ?_
  rotate_left
  · intro w' _
    go_simp
    try with_reducible rfl
  refine wpAnyH_done (by kernel_rfl) ?_ _
  go_wp2_with fail
  go_ret
  refine ⟨w1.heap.size, rfl, HB.out.size, kd_of Hs.out (heap_alloc_new w1 _) HR.out.1 HR.out.2 HK.out.bd HK.out.bx, HB.out.alloc HB.out.size _⟩
end Go.Proofs.YtleabfmlokjllaaDoor
