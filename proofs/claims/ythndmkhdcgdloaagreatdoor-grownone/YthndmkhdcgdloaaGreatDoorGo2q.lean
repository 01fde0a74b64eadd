import Derived.Test.YthndmkhdcgdloaaGreatDoorGo1q
import Derived.Test.YthndmkhdcgdloaaGreatDoorTkq
import Derived.Lib.SlBytesConst
/-
  GrowNone: the law.
-/
namespace Go.Proofs.YthndmkhdcgdloaaGreatDoor
open Go.RowKit Go.Maps
set_option maxRecDepth 100000 in
set_option maxHeartbeats 6400000 in
theorem gnone_any (w : World) : Calls Tryz.prog 3 #[] w fun e w' => e = .returned (.bool true) ∧ Below w.heap.size w w' := by
  obtain ⟨zz, hl, hz, hb⟩ := zed
  obtain ⟨W, eW⟩ : ∃ W, W = w.alloc (.cells zz.toArray 24) := ⟨_, rfl⟩
  have g0 : W.rangeAt w.heap.size 0 zz := by
    rw [eW]
    exact rng_row (heap_alloc_new _ _)
  have hW : w.heap.size < W.heap.size := by rw [eW]; simp
  have B : Hid (Below w.heap.size w W) := by
    rw [eW]
    exact nal _ _
  have HE : Hid (W = w.alloc (.cells zz.toArray 24)) := eW
  have HK : Hid (∀ u, Below W.heap.size W u → u.rangeAt w.heap.size 0 zz ∧ Below w.heap.size w u) := fun u k => ⟨fun j v hv => (k.cell (by exact hW)).trans (g0 j v hv), nch B.out k⟩
  have cvA : ∀ W : World, (convert 36 36 (.slice (some ⟨W.heap.size, 0, none⟩) 1 1)).run Tryz.prog (W.alloc (.cells #[.int .u8 118] 5)) = .ok (.slice (some ⟨W.heap.size, 0, none⟩) 1 1) (W.alloc (.cells #[.int .u8 118] 5 (1, 2))) := fun W => Lib.run_convert_bytes_const (P := Tryz.prog) W 36 5 #[.int .u8 118] 1 1 Tryz.underlying36 Tryz.underlying5
  clear eW hW
  go_enter Tryz.func3, Tryz.ntmps3
  go_wp2_with fail
  rw [← HE.out]
  refine (gbook _).mono ?_
  rintro _ w1 ⟨sb, rfl, b1⟩
  have H1 : Hid (Below W.heap.size W w1) := b1
  clear b1
  go_wp2_with fail
  refine (gnew_src _ _).mono ?_
  rintro _ u ⟨rfl, hu⟩
  have h4 := hu.symm
  subst h4
  go_wp2_with fail
  refine (gnew_book _ _ _).mono ?_
  rintro _ w2 ⟨rfl, hu⟩
  have H2 : Hid (Below W.heap.size W w2) := by
    rw [hu]
    exact nch H1.out (nal _ _)
  have g := (HK.out _ H2.out).1
  clear hu H1
  go_wp2_with (refine wpList_load_mid_g (by kernel_rfl) 24 _ (by rfl) w.heap.size 0 (by rfl) zz _ (by exact g) Tryz.underlying24 rfl (by rw [hl.len]; exact iH) ?_)
  refine (gnode_nil _ zz).mono ?_
  rintro _ w3 ⟨rfl, b3⟩
  have H3 : Hid (Below W.heap.size W w3) := nch H2.out b3
  clear b3 H2 g
  have g := (HK.out _ H3.out).1
  go_wp2_with (refine wpList_load_mid_g (by kernel_rfl) 24 _ (by rfl) w.heap.size 0 (by rfl) zz _ (by exact g) Tryz.underlying24 rfl (by rw [hl.len]; exact iH) ?_)
  refine (gput_nil _ zz hl _ _ _ _ _ _).mono ?_
  rintro _ w4 ⟨u4, rfl, hu4, b4⟩
  have H4 : Hid (Below W.heap.size W w4 ∧ Hc u4) := ⟨nch H3.out (nch (nal _ _) b4), hu4⟩
  clear b4 H3 g hu4
  go_wp2_with (refine wpList_stN (by kernel_rfl) 24 _ _ (by rfl) u4 zz (by rw [H4.out.2.len]; exact iH) (by rw [H4.out.2.len, hl.len]) H4.out.2.one (by rfl) (by rfl) ?_)
  obtain ⟨V, eV⟩ : ∃ V, V = w4.alloc (.cells u4.toArray 24) := ⟨_, rfl⟩
  rw [← eV]
  have H5 : Hid (Below W.heap.size W V) := by
    rw [eV]
    exact nch H4.out.1 (nal _ _)
  clear eV H4
  have g := (HK.out _ H5.out.drew).1
  have eg : ∀ args u, (callFunc 13 args).run Tryz.prog u = .ok (.enter 13 args) u := fun args u => by go_simp
  refine wp_region_held_drew (S := fun u => Below W.heap.size W u) (by kernel_rfl) (by exact H5.out.drew) ?_
  intro hS
  change wpAnyH _ _ _ _ _ 10 _ _ _
  refine Z.tk 0 (.pointer none) (y := Z.y_move) (s := hS) (h := ?_)
  refine Z.tk 1 (.agg zz.toArray) (y := Z.y_ldH zz hl (fun u k => (HK.out u k).1)) (s := hS) (h := ?_)
  refine Z.ly ?_
  refine Z.r2 2 7 (fun K hK => ?_) fun K hK => ?_
  · refine Z.r_mk 33 (by omega) ?_
    refine hK.out _ _ (nch hS (nal _ _)) (fun hS => ?_)
    clear hK K
    refine Z.ly ?_
    refine Z.r2 3 7 (fun K hK => ?_) fun K hK => ?_
    · refine Z.r_call 13 [_, _, _] _ [.pointer none, .agg zz.toArray, .slice _ 33 33] (by rfl) (by rfl) eg ?_
      refine (gdel_nil _ zz hl _ 33 33).mono ?_
      rintro _ w6 ⟨u6, rfl, hu6, b6⟩
      refine ⟨_, rfl, ?_⟩
      refine hK.out _ _ (nch hS b6) (fun hS => ?_)
      clear hK K
      refine Z.ly ?_
      refine Z.tk 4 (.tuple #[.agg u6.toArray, .int .i64 1]) (y := Z.y_move) (s := hS) (h := ?_)
      refine Z.ly ?_
      refine Z.tk 5 (.agg u6.toArray) (y := Z.y_ext) (s := hS) (h := ?_)
      refine Z.ly ?_
      refine Z.tk 6 (.int .i64 1) (y := Z.y_ext) (s := hS) (h := ?_)
      refine Z.ly ?_
      refine Z.r1 7 fun K hK => ?_
      refine Z.r_alloc hz ?_
      refine hK.out _ _ (nch hS (nal _ _)) (fun hS => ?_)
      clear hK K
      refine Z.ly ?_
      have sz := hS.size
      refine Z.r1 8 fun K hK => ?_
      have gn : (w6.alloc (.cells zz.toArray 24)).heap[w6.heap.size]? = some (.cells zz.toArray 24 (0, 0)) := heap_alloc_new _ _
      refine Z.r_stH (w6.heap.size) u6 zz hu6 hl gn ?_
      refine hK.out _ _ (below_setRow hS (by have := H5.out.size; have e : V.drew.heap.size = V.heap.size := rfl; have := H5.out.size; have := b6.size; simp only [World.size_alloc] at *; omega) _) (fun hS => ?_)
      clear hK K
      refine Z.ly ?_
      refine Z.tk 9 (.int .i64 1) (y := Z.y_assign) (s := hS) (h := ?_)
      refine Z.ly ?_
      refine wpAnyH_done (by kernel_rfl) ?_ _
      obtain ⟨X, eX⟩ : ∃ X, X = (w6.alloc (.cells zz.toArray 24)).setRow w6.heap.size u6.toArray := ⟨_, rfl⟩
      rw [← eX]
      rw [← eX] at hS
      have H6 : Hid (Below W.heap.size W X) := hS
      have g := (HK.out _ H6.out).1
      clear eX hS H5 b6 hu6 gn sz
      go_wp2_with (refine wpList_load_mid_g (by kernel_rfl) 24 _ (by rfl) w.heap.size 0 (by rfl) zz _ (by exact g) Tryz.underlying24 rfl (by rw [hl.len]; exact iH) ?_)
      refine (gapply_nil _ zz _).mono ?_
      rintro _ w7 ⟨u7, rfl, hu7, b7⟩
      have H7 : Hid (Below W.heap.size W w7 ∧ Hc u7) := ⟨nch H6.out b7, hu7⟩
      clear b7 H6 g hu7
      go_wp2_with (first
        | (refine wpList_stN (by kernel_rfl) 24 _ _ (by rfl) u7 zz (by rw [H7.out.2.len]; exact iH) (by rw [H7.out.2.len, hl.len]) H7.out.2.one (by rfl) (by rfl) ?_; obtain ⟨w8, e8⟩ : ∃ w8, w8 = w7.alloc (.cells u7.toArray 24) := ⟨_, rfl⟩; rw [← e8]; have H8 : Hid (Below W.heap.size W w8) := (by rw [e8]; exact nch H7.out.1 (nal _ _)); have g := (HK.out _ H8.out).1; clear e8)
        | (refine wpList_load_mid_g (by kernel_rfl) 24 _ (by rfl) w.heap.size 0 (by rfl) zz _ (by exact g) Tryz.underlying24 rfl (by rw [hl.len]; exact iH) ?_))
      refine (greach_nil _ zz).mono ?_
      rintro _ w9 ⟨rfl, b9⟩
      have H9 : Hid (Below W.heap.size W w9) := nch H8.out b9
      clear b9 H8 g
      go_wp2_with fail
      refine (glen_nil _).mono ?_
      rintro _ u ⟨rfl, hu9⟩
      have h9 := hu9.symm
      subst h9
      go_wp2_with fail
      go_ret
      exact ⟨rfl, (HK.out _ H9.out).2⟩
    · refine Z.r_alloc hz ?_
      refine hK.out _ _ (nch hS (nal _ _)) (fun hS => ?_)
      clear hK K
      refine Z.ly ?_
      refine Z.r1 3 fun K hK => ?_
      refine Z.r_call 13 [_, _, _] _ [.pointer none, .agg zz.toArray, .slice _ 33 33] (by rfl) (by rfl) eg ?_
      refine (gdel_nil _ zz hl _ 33 33).mono ?_
      rintro _ w6 ⟨u6, rfl, hu6, b6⟩
      refine ⟨_, rfl, ?_⟩
      refine hK.out _ _ (nch hS b6) (fun hS => ?_)
      clear hK K
      refine Z.ly ?_
      refine Z.tk 4 (.tuple #[.agg u6.toArray, .int .i64 1]) (y := Z.y_move) (s := hS) (h := ?_)
      refine Z.ly ?_
      refine Z.tk 5 (.agg u6.toArray) (y := Z.y_ext) (s := hS) (h := ?_)
      refine Z.ly ?_
      refine Z.tk 6 (.int .i64 1) (y := Z.y_ext) (s := hS) (h := ?_)
      refine Z.ly ?_
      have sz := hS.size
      refine Z.r1 8 fun K hK => ?_
      have gn : w6.heap[(V.drew.alloc (.cells (madeCells #[.int .u8 0] 33) 5)).heap.size]? = some (.cells zz.toArray 24 (0, 0)) := (b6.block _ (by simp)).trans (heap_alloc_new _ _)
      refine Z.r_stH ((V.drew.alloc (.cells (madeCells #[.int .u8 0] 33) 5)).heap.size) u6 zz hu6 hl gn ?_
      refine hK.out _ _ (below_setRow hS (by have := H5.out.size; have e : V.drew.heap.size = V.heap.size := rfl; simp only [World.size_alloc] at *; omega) _) (fun hS => ?_)
      clear hK K
      refine Z.ly ?_
      refine Z.tk 9 (.int .i64 1) (y := Z.y_assign) (s := hS) (h := ?_)
      refine Z.ly ?_
      refine wpAnyH_done (by kernel_rfl) ?_ _
      obtain ⟨X, eX⟩ : ∃ X, X = w6.setRow (V.drew.alloc (.cells (madeCells #[.int .u8 0] 33) 5)).heap.size u6.toArray := ⟨_, rfl⟩
      rw [← eX]
      rw [← eX] at hS
      have H6 : Hid (Below W.heap.size W X) := hS
      have g := (HK.out _ H6.out).1
      clear eX hS H5 b6 hu6 gn sz
      go_wp2_with (refine wpList_load_mid_g (by kernel_rfl) 24 _ (by rfl) w.heap.size 0 (by rfl) zz _ (by exact g) Tryz.underlying24 rfl (by rw [hl.len]; exact iH) ?_)
      refine (gapply_nil _ zz _).mono ?_
      rintro _ w7 ⟨u7, rfl, hu7, b7⟩
      have H7 : Hid (Below W.heap.size W w7 ∧ Hc u7) := ⟨nch H6.out b7, hu7⟩
      clear b7 H6 g hu7
      go_wp2_with (first
        | (refine wpList_stN (by kernel_rfl) 24 _ _ (by rfl) u7 zz (by rw [H7.out.2.len]; exact iH) (by rw [H7.out.2.len, hl.len]) H7.out.2.one (by rfl) (by rfl) ?_; obtain ⟨w8, e8⟩ : ∃ w8, w8 = w7.alloc (.cells u7.toArray 24) := ⟨_, rfl⟩; rw [← e8]; have H8 : Hid (Below W.heap.size W w8) := (by rw [e8]; exact nch H7.out.1 (nal _ _)); have g := (HK.out _ H8.out).1; clear e8)
        | (refine wpList_load_mid_g (by kernel_rfl) 24 _ (by rfl) w.heap.size 0 (by rfl) zz _ (by exact g) Tryz.underlying24 rfl (by rw [hl.len]; exact iH) ?_))
      refine (greach_nil _ zz).mono ?_
      rintro _ w9 ⟨rfl, b9⟩
      have H9 : Hid (Below W.heap.size W w9) := nch H8.out b9
      clear b9 H8 g
      go_wp2_with fail
      refine (glen_nil _).mono ?_
      rintro _ u ⟨rfl, hu9⟩
      have h9 := hu9.symm
      subst h9
      go_wp2_with fail
      go_ret
      exact ⟨rfl, (HK.out _ H9.out).2⟩
  · refine Z.r_alloc hz ?_
    refine hK.out _ _ (nch hS (nal _ _)) (fun hS => ?_)
    clear hK K
    refine Z.ly ?_
    refine Z.r1 2 fun K hK => ?_
    refine Z.r_mk 33 (by omega) ?_
    refine hK.out _ _ (nch hS (nal _ _)) (fun hS => ?_)
    clear hK K
    refine Z.ly ?_
    refine Z.r1 3 fun K hK => ?_
    refine Z.r_call 13 [_, _, _] _ [.pointer none, .agg zz.toArray, .slice _ 33 33] (by rfl) (by rfl) eg ?_
    refine (gdel_nil _ zz hl _ 33 33).mono ?_
    rintro _ w6 ⟨u6, rfl, hu6, b6⟩
    refine ⟨_, rfl, ?_⟩
    refine hK.out _ _ (nch hS b6) (fun hS => ?_)
    clear hK K
    refine Z.ly ?_
    refine Z.tk 4 (.tuple #[.agg u6.toArray, .int .i64 1]) (y := Z.y_move) (s := hS) (h := ?_)
    refine Z.ly ?_
    refine Z.tk 5 (.agg u6.toArray) (y := Z.y_ext) (s := hS) (h := ?_)
    refine Z.ly ?_
    refine Z.tk 6 (.int .i64 1) (y := Z.y_ext) (s := hS) (h := ?_)
    refine Z.ly ?_
    have sz := hS.size
    refine Z.r1 8 fun K hK => ?_
    have gn : w6.heap[V.drew.heap.size]? = some (.cells zz.toArray 24 (0, 0)) := (b6.block _ (by simp; omega)).trans ((heap_alloc_old _ _ (by simp)).trans (heap_alloc_new _ _))
    refine Z.r_stH (V.drew.heap.size) u6 zz hu6 hl gn ?_
    refine hK.out _ _ (below_setRow hS (by have := H5.out.size; have e : V.drew.heap.size = V.heap.size := rfl; omega) _) (fun hS => ?_)
    clear hK K
    refine Z.ly ?_
    refine Z.tk 9 (.int .i64 1) (y := Z.y_assign) (s := hS) (h := ?_)
    refine Z.ly ?_
    refine wpAnyH_done (by kernel_rfl) ?_ _
    obtain ⟨X, eX⟩ : ∃ X, X = w6.setRow V.drew.heap.size u6.toArray := ⟨_, rfl⟩
    rw [← eX]
    rw [← eX] at hS
    have H6 : Hid (Below W.heap.size W X) := hS
    have g := (HK.out _ H6.out).1
    clear eX hS H5 b6 hu6 gn sz
    go_wp2_with (refine wpList_load_mid_g (by kernel_rfl) 24 _ (by rfl) w.heap.size 0 (by rfl) zz _ (by exact g) Tryz.underlying24 rfl (by rw [hl.len]; exact iH) ?_)
    refine (gapply_nil _ zz _).mono ?_
    rintro _ w7 ⟨u7, rfl, hu7, b7⟩
    have H7 : Hid (Below W.heap.size W w7 ∧ Hc u7) := ⟨nch H6.out b7, hu7⟩
    clear b7 H6 g hu7
    go_wp2_with (first
      | (refine wpList_stN (by kernel_rfl) 24 _ _ (by rfl) u7 zz (by rw [H7.out.2.len]; exact iH) (by rw [H7.out.2.len, hl.len]) H7.out.2.one (by rfl) (by rfl) ?_; obtain ⟨w8, e8⟩ : ∃ w8, w8 = w7.alloc (.cells u7.toArray 24) := ⟨_, rfl⟩; rw [← e8]; have H8 : Hid (Below W.heap.size W w8) := (by rw [e8]; exact nch H7.out.1 (nal _ _)); have g := (HK.out _ H8.out).1; clear e8)
      | (refine wpList_load_mid_g (by kernel_rfl) 24 _ (by rfl) w.heap.size 0 (by rfl) zz _ (by exact g) Tryz.underlying24 rfl (by rw [hl.len]; exact iH) ?_))
    refine (greach_nil _ zz).mono ?_
    rintro _ w9 ⟨rfl, b9⟩
    have H9 : Hid (Below W.heap.size W w9) := nch H8.out b9
    clear b9 H8 g
    go_wp2_with fail
    refine (glen_nil _).mono ?_
    rintro _ u ⟨rfl, hu9⟩
    have h9 := hu9.symm
    subst h9
    go_wp2_with fail
    go_ret
    exact ⟨rfl, (HK.out _ H9.out).2⟩
end Go.Proofs.YthndmkhdcgdloaaGreatDoor
