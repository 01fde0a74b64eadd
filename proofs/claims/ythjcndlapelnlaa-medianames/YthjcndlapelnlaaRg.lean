/-
  (*Device).Reg, whatever access does. (Written by gen_rg.py.)
-/
import Derived.Test.YthjcndlapelnlaaYs
namespace Go.Proofs.Ythjcndlapelnlaa
open Go.RowKit

theorem res2 {fn : Func} {p t : Tmp} {ty : TypeId} (h : fn.results = #[.cell p ty, .tmp t]) (tmps : Array Value) (w : World) (g : Nat) (v : Value)
    (hp : tmps.getD p undef = .pointer (some ⟨g, 0, none⟩)) (hl : (loadVar ty ⟨g, 0, none⟩).run Try.prog w = .ok v w) :
    (results fn tmps).run Try.prog w = .ok (.tuple #[v, tmps.getD t undef]) w := by
  have hp' : tmps[p]?.getD undef = .pointer (some ⟨g, 0, none⟩) := by simpa using hp
  simp [results, h, hp', asAddr, hl]
theorem zero39 : (Try.prog.info? 39).map (fun i => (i.zero, i.size)) = some (some (.agg (rgc 0 z32).toArray), 33) := by kernel_rfl
theorem i39' {c : Int} {tag : List Nat} (h : tag.length = 32) : (Try.prog.info? 39).map (·.size) = some (rgc c tag).length := by rw [rgc_len h]; exact i39
theorem rgc_one (c : Int) (tag : List Nat) : (rgc c tag).toArray.all (·.oneCell') = true := by
  refine all_oneCell_toArray (fun x hx => ?_)
  unfold rgc bv at hx
  simp only [List.mem_cons, List.mem_map] at hx
  rcases hx with rfl | ⟨y, _, rfl⟩ <;> rfl
set_option maxRecDepth 100000 in
set_option maxHeartbeats 1600000 in
theorem reg_of {p : Value} {w : World} {R : World → Value → Value → Int → List Nat → Int → Prop} (K : Acc p (w.alloc (.cells (rgc 0 z32).toArray 39)) (rqc 9 z32 nilS 0 0 z32) R)
    (KR : ∀ w2 b ks c tag er, R w2 b ks c tag er → w2.heap[w.heap.size]? = some (.cells (rgc 0 z32).toArray 39 (0, 0))) :
    Calls Try.prog 10 #[p] w fun e w' => ∃ w2 b ks c tag er, e = .returned (.tuple #[.agg (rgc c tag).toArray, .int .i64 er]) ∧ R w2 b ks c tag er ∧ Turn (fun i => i = w.heap.size) w2 w' := by
  have bd := built77_k 9
  have hz := zv74
  have hz3 := zero_of_info zero39
  have HK : Hid (Acc p (w.alloc (.cells (rgc 0 z32).toArray 39)) (rqc 9 z32 nilS 0 0 z32) R) := K
  clear K
  go_enter Try.func10, Try.ntmps10
  go_wp2_with (first
    | refine wpList_bdL (by kernel_rfl) _ _ (by rfl) _ bd ?_
    | (go_at_call 26; refine HK.out.mono ?_; rintro e w' ⟨b, ks, c, tag, er, rfl, ht, hb, hk, hR⟩; have ho := anc_one (c := c) (tag := tag) (e := er) hb hk; have HL : Hid ((Try.prog.info? 74).map (·.size) = some (anc b ks c tag er).length ∧ (anc b ks c tag er).length = (anc nilS nilS 0 z32 0).length) := ⟨i74' ht, by rw [anc_len ht, anc_len z32_len]⟩; have HA : Hid ((w'.alloc (.cells (anc b ks c tag er).toArray 74)).rangeAt w'.heap.size 0 (anc b ks c tag er)) := rng_new w' _ _; have HR : Hid (R w' b ks c tag er) := hR; have HG : Hid (w'.heap[w.heap.size]? = some (.cells (rgc 0 z32).toArray 39 (0, 0))) := KR _ _ _ _ _ _ hR; clear hR HK)
    | refine wpList_stN (by kernel_rfl) 74 _ _ (by rfl) (anc b ks c tag er) (anc nilS nilS 0 z32 0) HL.out.1 HL.out.2 ho (by rfl) (by rfl) ?_)
  have HS0 : Hid ((w'.alloc (.cells (anc b ks c tag er).toArray 74)).drew.rangeAt w'.heap.size (0 + 2) (rgc c tag) ∧ (w'.alloc (.cells (anc b ks c tag er).toArray 74)).drew.cell? ⟨w'.heap.size, 0 + 35, none⟩ = some (.int .i64 er)) := by
    obtain ⟨a0, a1, a2, a3⟩ := an_at ht HA.out
    exact ⟨a2, a3⟩
  have hne : w'.heap.size ≠ w.heap.size := by
    have := (Array.getElem?_eq_some_iff.1 HG.out).1
    omega
  have HI : Hid ((Try.prog.info? 39).map (·.size) = some (rgc c tag).length) := i39' ht
  refine wp_region_held_drew (S := fun u => u.rangeAt w'.heap.size (0 + 2) (rgc c tag) ∧ u.cell? ⟨w'.heap.size, 0 + 35, none⟩ = some (.int .i64 er)) (by kernel_rfl) HS0.out ?_
  intro hS
  change wpAnyH _ _ _ _ _ 6 _ _ _
  refine wpAnyH_take (i := 0) (v := (.pointer (some ⟨w'.heap.size, 0 + 2, none⟩))) (by simp only [List.getElem?_toArray, List.getElem?_cons_zero]; rfl) (by kernel_rfl) (by kernel_rfl) (by kernel_rfl) (by exact fun _ _ _ h => h) (y_f_Ans2 (by kernel_rfl) _ rfl _ _ rfl) hS ?_
  try simp only [Act.put, List.setIfInBounds_toArray, List.set_cons_zero, List.set_cons_succ]
  refine wpAnyH_take (i := 1) (v := (.agg (rgc c tag).toArray)) (by simp only [List.getElem?_toArray, List.getElem?_cons_zero, List.getElem?_cons_succ]; rfl) (by kernel_rfl) (by kernel_rfl) (by kernel_rfl) (by exact fun _ _ _ h => h) (y_s_Reg (by kernel_rfl) _ rfl _ _ rfl (rgc c tag) HI.out (fun u hs => hs.1)) hS ?_
  try simp only [Act.put, List.setIfInBounds_toArray, List.set_cons_zero, List.set_cons_succ]
  refine wpAnyH_take (i := 2) (v := (.pointer (some ⟨w'.heap.size, 0 + 35, none⟩))) (by simp only [List.getElem?_toArray, List.getElem?_cons_zero, List.getElem?_cons_succ]; rfl) (by kernel_rfl) (by kernel_rfl) (by kernel_rfl) (by exact fun _ _ _ h => h) (y_f_Ans3 (by kernel_rfl) _ rfl _ _ rfl) hS ?_
  try simp only [Act.put, List.setIfInBounds_toArray, List.set_cons_zero, List.set_cons_succ]
  refine wpAnyH_take (i := 3) (v := (.int .i64 er)) (by simp only [List.getElem?_toArray, List.getElem?_cons_zero, List.getElem?_cons_succ]; rfl) (by kernel_rfl) (by kernel_rfl) (by kernel_rfl) (by exact fun _ _ _ h => h) (y_l_Errno (by kernel_rfl) _ rfl _ _ rfl _ (fun u hs => hs.2)) hS ?_
  try simp only [Act.put, List.setIfInBounds_toArray, List.set_cons_zero, List.set_cons_succ]
  have hg1 : (w'.alloc (.cells (anc b ks c tag er).toArray 74)).drew.heap[w.heap.size]? = some (.cells (rgc 0 z32).toArray 39 (0, 0)) :=
    (heap_alloc_old _ _ (Array.getElem?_eq_some_iff.1 HG.out).1).trans HG.out
  refine wpAnyH_ready (rs := [4]) (by kernel_rfl) (by simp) ?_
  refine AllReadyH.cons (by simp only [List.getElem?_toArray, List.getElem?_cons_zero, List.getElem?_cons_succ]; rfl) (fun K hK => ?_) AllReadyH.nil
  refine r_stS (by kernel_rfl) 39 _ _ (by rfl) w.heap.size (rgc c tag) (rgc 0 z32) HI.out (by rw [rgc_len ht, rgc_len z32_len]) (rgc_one _ _) hg1 (by rfl) (by rfl) ?_
  have hst : ((w'.alloc (.cells (anc b ks c tag er).toArray 74)).drew.setRow w.heap.size (rgc c tag).toArray).heap[w'.heap.size]? = (w'.alloc (.cells (anc b ks c tag er).toArray 74)).drew.heap[w'.heap.size]? :=
    (Turn.setRow (F := fun i => i = w.heap.size) _ w.heap.size (rgc c tag).toArray rfl).block _ (by simp [World.drew]) hne
  have hS2 : ((w'.alloc (.cells (anc b ks c tag er).toArray 74)).drew.setRow w.heap.size (rgc c tag).toArray).rangeAt w'.heap.size (0 + 2) (rgc c tag) ∧ ((w'.alloc (.cells (anc b ks c tag er).toArray 74)).drew.setRow w.heap.size (rgc c tag).toArray).cell? ⟨w'.heap.size, 0 + 35, none⟩ = some (.int .i64 er) :=
    ⟨rng_same HS0.out.1 hst, (World.cell?_of_block (w := (w'.alloc (.cells (anc b ks c tag er).toArray 74)).drew) hst).trans HS0.out.2⟩
  refine hK.out _ _ hS2 (fun hS => ?_)
  clear hK K
  simp only [Act.put]
  refine wpAnyH_take (i := 5) (v := (.int .i64 er)) (by simp only [List.getElem?_toArray, List.getElem?_cons_zero, List.getElem?_cons_succ]; rfl) (by kernel_rfl) (by kernel_rfl) (by kernel_rfl) (by exact fun _ _ _ h => h) (y_assign (by kernel_rfl) _ rfl _ rfl) hS ?_
  try simp only [Act.put, List.setIfInBounds_toArray, List.set_cons_zero, List.set_cons_succ]
  refine wpAnyH_done (by kernel_rfl) ?_ _
  go_wp2_with fail
  have hr := setRow_heap' (cs' := (rgc c tag).toArray) hg1
  exact bodyPost_ret (res2 rfl _ _ w.heap.size _ rfl (run_loadVar_mid _ w.heap.size 0 39 _ _ (rng_row hr) Try.underlying39 rfl HI.out)) rfl ⟨w', b, ks, c, tag, er, rfl, HR.out, ((Turn.alloc _ _).trans (Turn.drew _) (fun _ q => Or.inl q)).trans (Turn.setRow (F := fun i => i = w.heap.size) _ _ _ rfl) (fun _ q => Or.inl q)⟩
end Go.Proofs.Ythjcndlapelnlaa
