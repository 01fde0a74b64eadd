import Derived.Test.YtpmdjopojcgpeaaGreatDoorH2q
/-
  A store in memory; (*cache).add of what is not there. (Written by gen_h3.py.)
-/
namespace Go.Proofs.YtpmdjopojcgpeaaGreatDoor
open Go.RowKit Go.Maps Go.ChangeMaps

section
variable {ops : Array Oper} {S : World → Prop} {o : Oper} {a : Act}
theorem y_lenH (hw : Region.wanted o (yielded ops a.tmps) = true) (x : Operand) (ho : o.op = .call { callee := .builtin .len, args := #[x], argTypes := #[42] }) (p : Option Addr) (n c : Nat) (hx : a.eval x = .slice p n c) : YieldsIf Tryz.prog ops S o (.int .i64 (n : Int)) a :=
  .inl ⟨hw, fun w _ => by
    unfold execOp
    simp only [ho, resolve, List.map_toArray, List.map_cons, List.map_nil, hx]
    go_simp⟩
theorem y_gtrIr (hw : Region.wanted o (yielded ops a.tmps) = true) (x y : Operand) (ho : o.op = .binOp .gtr 3 x y 3) (d d' : Int) (hx : a.eval x = .int .i64 d) (hy : a.eval y = .int .i64 d') (r : Bool) (hr : decide (d' < d) = r) : YieldsIf Tryz.prog ops S o (.bool r) a :=
  .inl ⟨hw, fun w _ => by
    unfold execOp
    simp only [ho, hx, hy]
    subst hr
    go_simp⟩
end
section
variable {ops : Array Oper} {o : Oper} {a : Act} {Q : Exit → Act → World → Prop} {w : World} {K : Act → World → Prop} {E : Prop}
theorem r_delete (hw : Region.wanted o (yielded ops a.tmps) = true) (m x : Operand) (t k : TypeId) (ho : o.op = .call { callee := .builtin .delete, args := #[m, x], argTypes := #[t, k] }) (vm vx : Value) (w' : World) (hm : a.eval m = vm) (hx : a.eval x = vx) (hr : (Builtin.delete_ #[t, k] o.type #[vm, vx]).run Tryz.prog w = .ok (.tuple #[]) w') (h : K (a.put o.dst (.tuple #[])) w') : if Region.wanted o (yielded ops a.tmps) = true then Oper.wp Tryz.prog o a w K Q else E := by
  refine r_val hw _ w' ?_ h
  unfold execOp
  simp only [ho, resolve, invoke, builtin, Sem.run_bind, Sem.run_pure, Result.andThen_ok, List.map_toArray, List.map_cons, List.map_nil, hm, hx, hr]
end
/-- bytes off the blocks F -/
def Vo (F : Nat → Prop) (w : World) (v : Value) (x : List Nat) : Prop := ∃ a b off c, v = .slice a x.length c ∧ Vw w a b off x ∧ x.length ≤ c ∧ (a = none → c = 0) ∧ x.length ≤ 140737488351232 ∧ (0 < x.length → ¬ F b ∧ b < w.heap.size)
theorem Vo.vb {F : Nat → Prop} {w : World} {v : Value} {x : List Nat} (h : Vo F w v x) : Vb w v x := by
  obtain ⟨a, b, off, c, h1, h2, h3, h4, h5, _⟩ := h
  exact ⟨a, b, off, c, h1, h2, h3, h4, h5⟩
theorem Vo.turn {F G : Nat → Prop} {w w' : World} {v : Value} {x : List Nat} (h : Vo F w v x) (t : Turn G w w') (hG : ∀ i, G i → i < w.heap.size → F i) : Vo F w' v x := by
  obtain ⟨a, b, off, c, h1, h2, h3, h4, h5, h6⟩ := h
  exact ⟨a, b, off, c, h1, h2.turn t (fun h0 q => (h6 h0).1 (hG _ q (h6 h0).2)), h3, h4, h5, fun h0 => ⟨(h6 h0).1, Nat.lt_of_lt_of_le (h6 h0).2 t.size⟩⟩
theorem Vo.keep {F : Nat → Prop} {w w' : World} {v : Value} {x : List Nat} (h : Vo F w v x) (k : Below w.heap.size w w') : Vo F w' v x := h.turn (G := fun _ => False) (Turn.of_below k) (fun _ q => q.elim)
theorem Vo.mono {F G : Nat → Prop} {w : World} {v : Value} {x : List Nat} (h : Vo F w v x) (hG : ∀ i, G i → i < w.heap.size → F i) : Vo G w v x := by
  obtain ⟨a, b, off, c, h1, h2, h3, h4, h5, h6⟩ := h
  exact ⟨a, b, off, c, h1, h2, h3, h4, h5, fun h0 => ⟨fun q => (h6 h0).1 (hG _ q (h6 h0).2), (h6 h0).2⟩⟩

/-- A STORE: its cache has the keys ks, the oldest first, and the blobs bl; its quarantine is empty. -/
structure Cs (w : World) (F : Nat → Prop) (sb g bk : Nat) (most : Int) (ord : Value) (mb mq N : Nat) (D : DataW Value) (V : List Nat → Value) (E : Nat → Prop) (ks : List (List Nat)) (bl : List Nat → Option (List Nat)) (cnt : Nat) : Prop where
  st : Stb w sb g bk most ord mb mq
  bl : Bl w E mb N D V bl cnt
  od : w.ownsRow 0 38 32 ord ks.length (hcs ks)
  bad : EmpM w mq
  ne : mb ≠ mq
  fs : F sb ∧ F mb ∧ F mq
  fo : ∀ b, ord.ownBlock = some b → F b
  fe : ∀ i, E i → F i
  key : ∀ k ∈ ks, IsH k
  n : ks.length ≤ N
theorem Cs.turn {G : Nat → Prop} {w w' : World} {F : Nat → Prop} {sb g bk : Nat} {most : Int} {ord : Value} {mb mq N : Nat} {D : DataW Value} {V : List Nat → Value} {E : Nat → Prop} {ks : List (List Nat)} {bl : List Nat → Option (List Nat)} {cnt : Nat} (h : Cs w F sb g bk most ord mb mq N D V E ks bl cnt) (t : Turn G w w') (hd : ∀ i, F i → i < w.heap.size → ¬ G i) : Cs w' F sb g bk most ord mb mq N D V E ks bl cnt := by
  obtain ⟨c0, hc0⟩ := h.bad
  exact { h with
    st := h.st.turn t (hd _ h.fs.1 (Array.getElem?_eq_some_iff.1 h.st.blk).1)
    bl := ⟨h.bl.mh.turn t (hd _ h.fs.2.1 h.bl.mh.map.lt), h.bl.has, fun k hk => (h.bl.dat k hk).turn t (fun i q l => hd i (h.fe i q) l), h.bl.size⟩
    od := own_turn h.od t (fun b hb => hd b (h.fo b hb) (h.od.lt b hb).2)
    bad := h.bad.turn t (hd _ h.fs.2.2 (Array.getElem?_eq_some_iff.1 hc0).1) }
theorem Cs.keep {w w' : World} {F : Nat → Prop} {sb g bk : Nat} {most : Int} {ord : Value} {mb mq N : Nat} {D : DataW Value} {V : List Nat → Value} {E : Nat → Prop} {ks : List (List Nat)} {bl : List Nat → Option (List Nat)} {cnt : Nat} (h : Cs w F sb g bk most ord mb mq N D V E ks bl cnt) (k : Below w.heap.size w w') : Cs w' F sb g bk most ord mb mq N D V E ks bl cnt := h.turn (G := fun _ => False) (Turn.of_below k) (fun _ _ _ q => q)
theorem Off.stb {w : World} {sb g bk : Nat} {most : Int} {ord : Value} {mb mq : Nat} (h : Stb w sb g bk most ord mb mq) {T : TypeId} (hT : 103 ≠ T) : Off w (fun i => i = sb) T := Off.blk h.blk hT
theorem Stb.setOrd {w : World} {sb g bk : Nat} {most : Int} {ord : Value} {mb mq : Nat} (h : Stb w sb g bk most ord mb mq) (v : Value) : Stb (w.setCell ⟨sb, 3, none⟩ v) sb g bk most v mb mq := ⟨by
  have := blk_set h.blk 3 v
  simpa using this⟩
set_option maxRecDepth 100000 in
set_option maxHeartbeats 6400000 in
theorem add_any {w : World} {F : Nat → Prop} {sb g bk : Nat} {most : Int} {ord : Value} {mb mq N : Nat} {D : DataW Value} {V : List Nat → Value} {E : Nat → Prop} {ks : List (List Nat)} {bl : List Nat → Option (List Nat)} {cnt : Nat} (h : Cs w F sb g bk most ord mb mq N D V E ks bl cnt) (hB : ∀ i, w.heap.size ≤ i → F i) {key : List Nat} (hk : IsH key) (habs : bl key = none) (hN : N ≤ 1000) (hroom : (ks.length : Int) + 1 ≤ most) {sa : Option Addr} {m sc : Nat} {x : List Nat} (hv : Vo F w (.slice sa m sc) x) (hx : x.length ≤ 1048576) :
    Calls Tryz.prog 42 #[.pointer (some ⟨sb, 2, none⟩), .agg (bv key).toArray, .slice sa m sc] w fun e w' => (∃ z, e = .returned z) ∧ ∃ ord' D' V' E', Cs w' F sb g bk most ord' mb mq (N + 1) D' V' E' (ks ++ [key]) (fun k' => if k' = key then some x else bl k') (cnt + 1) ∧ Turn F w w' := by
  obtain ⟨W, eW⟩ : ∃ W, W = w.alloc (.cells (bv key).toArray 38) := ⟨_, rfl⟩
  have b0 : Below w.heap.size w W := by rw [eW]; exact (Below.refl _ _).alloc (Nat.le_refl _) _
  have hkb : W.heap[w.heap.size]? = some (.cells (bv key).toArray 38 (0, 0)) := by rw [eW]; exact heap_alloc_new _ _
  have HW : Hid (∀ u, Below W.heap.size W u → Cs u F sb g bk most ord mb mq N D V E ks bl cnt ∧ u.heap[w.heap.size]? = some (.cells (bv key).toArray 38 (0, 0)) ∧ Vo F u (.slice sa m sc) x ∧ Below w.heap.size w u) := fun u b2 => by
    have b := ch b0 b2
    exact ⟨h.keep b, (b2.block _ (by rw [eW]; simp)).trans hkb, hv.keep b, b⟩
  have HK : Hid (IsH key ∧ N ≤ 1000 ∧ x.length ≤ 1048576 ∧ bl key = none) := ⟨hk, hN, hx, habs⟩
  have HF : Hid (∀ i, w.heap.size ≤ i → F i) := hB
  obtain ⟨oa, oc, eo⟩ := own_slice h.od
  have HO : Hid (ord = .slice oa ks.length oc) := eo
  have HOL : Hid (∀ b, ord.ownBlock = some b → b < w.heap.size) := fun b hb => (h.od.lt b hb).2
  have HSB : Hid (sb < w.heap.size ∧ mb < w.heap.size) := ⟨(Array.getElem?_eq_some_iff.1 h.st.blk).1, h.bl.mh.map.lt⟩
  obtain ⟨v1, hv1⟩ : ∃ v, v = V key := ⟨_, rfl⟩
  have HL : Hid (∀ u, Below W.heap.size W u → (Instr.lookup 97 (.map (some mb)) (.agg (bv key).toArray) true).run Tryz.prog u = .ok (.tuple #[v1, .bool false]) u) := fun u hu => by
    have := (HW.out u hu).1.bl.mh.look_ok Tryz.underlying97 zeroMb HK.out.1
    rw [(HW.out u hu).1.bl.has key HK.out.1, HK.out.2.2.2, ← hv1] at this
    exact this
  clear h hB hk habs hN hv hx b0 hkb eo hv1
  go_enter Tryz.func42, Tryz.ntmps42
  go_wp2_with fail
  rw [← eW]
  clear eW
  refine wp_region_held_drew (S := fun u => Below W.heap.size W u) (by kernel_rfl) (by exact (Below.refl _ _).drew) ?_
  intro hS
  change wpAnyH _ _ _ _ _ 11 _ _ _
  refine wpAnyH_take (i := 0) (v := (.pointer (some ⟨sb, 2, none⟩))) (by simp only [List.getElem?_toArray, List.getElem?_cons_zero]; rfl) (by kernel_rfl) (by kernel_rfl) (by kernel_rfl) (by exact fun _ _ _ h => h) (y_move (by kernel_rfl) _ rfl _ rfl) hS ?_
  try simp only [Act.put, List.setIfInBounds_toArray, List.set_cons_zero, List.set_cons_succ]
  refine wpAnyH_take (i := 1) (v := (.pointer (some ⟨sb, 2, none⟩))) (by simp only [List.getElem?_toArray, List.getElem?_cons_zero, List.getElem?_cons_succ]; rfl) (by kernel_rfl) (by kernel_rfl) (by kernel_rfl) (by exact fun _ _ _ h => h) (y_nil (by kernel_rfl) _ rfl _ rfl) hS ?_
  try simp only [Act.put, List.setIfInBounds_toArray, List.set_cons_zero, List.set_cons_succ]
  refine wpAnyH_take (i := 2) (v := (.pointer (some ⟨sb, 2 + 2, none⟩))) (by simp only [List.getElem?_toArray, List.getElem?_cons_zero, List.getElem?_cons_succ]; rfl) (by kernel_rfl) (by kernel_rfl) (by kernel_rfl) (by exact fun _ _ _ h => h) (y_f_Cch2 (by kernel_rfl) _ rfl _ _ rfl) hS ?_
  try simp only [Act.put, List.setIfInBounds_toArray, List.set_cons_zero, List.set_cons_succ]
  refine wpAnyH_take (i := 3) (v := (.map (some mb))) (by simp only [List.getElem?_toArray, List.getElem?_cons_zero, List.getElem?_cons_succ]; rfl) (by kernel_rfl) (by kernel_rfl) (by kernel_rfl) (by exact fun _ _ _ h => h) (y_l_mb (by kernel_rfl) _ rfl _ _ rfl _ (fun u hs => (HW.out u hs).1.st.at_.2.2.2.2.1)) hS ?_
  try simp only [Act.put, List.setIfInBounds_toArray, List.set_cons_zero, List.set_cons_succ]
  refine wpAnyH_take (i := 4) (v := (.agg (bv key).toArray)) (by simp only [List.getElem?_toArray, List.getElem?_cons_zero, List.getElem?_cons_succ]; rfl) (by kernel_rfl) (by kernel_rfl) (by kernel_rfl) (by exact fun _ _ _ h => h) (y_s_Hash (by kernel_rfl) _ rfl _ _ rfl key HK.out.1.1 (fun u hs => blk_rng (HW.out u hs).2.1)) hS ?_
  try simp only [Act.put, List.setIfInBounds_toArray, List.set_cons_zero, List.set_cons_succ]
  refine wpAnyH_take (i := 5) (v := (.tuple #[v1, .bool false])) (by simp only [List.getElem?_toArray, List.getElem?_cons_zero, List.getElem?_cons_succ]; rfl) (by kernel_rfl) (by kernel_rfl) (by kernel_rfl) (by exact fun _ _ _ h => h) (y_look (by kernel_rfl) _ _ _ _ rfl _ _ _ rfl rfl (fun u hs => HL.out u hs)) hS ?_
  try simp only [Act.put, List.setIfInBounds_toArray, List.set_cons_zero, List.set_cons_succ]
  refine wpAnyH_take (i := 6) (v := (.tuple #[v1, .bool false])) (by simp only [List.getElem?_toArray, List.getElem?_cons_zero, List.getElem?_cons_succ]; rfl) (by kernel_rfl) (by kernel_rfl) (by kernel_rfl) (by exact fun _ _ _ h => h) (y_move (by kernel_rfl) _ rfl _ rfl) hS ?_
  try simp only [Act.put, List.setIfInBounds_toArray, List.set_cons_zero, List.set_cons_succ]
  refine wpAnyH_take (i := 7) (v := v1) (by simp only [List.getElem?_toArray, List.getElem?_cons_zero, List.getElem?_cons_succ]; rfl) (by kernel_rfl) (by kernel_rfl) (by kernel_rfl) (by exact fun _ _ _ h => h) (y_ext (by kernel_rfl) _ _ rfl _ _ rfl rfl) hS ?_
  try simp only [Act.put, List.setIfInBounds_toArray, List.set_cons_zero, List.set_cons_succ]
  refine wpAnyH_take (i := 8) (v := (.bool false)) (by simp only [List.getElem?_toArray, List.getElem?_cons_zero, List.getElem?_cons_succ]; rfl) (by kernel_rfl) (by kernel_rfl) (by kernel_rfl) (by exact fun _ _ _ h => h) (y_ext (by kernel_rfl) _ _ rfl _ _ rfl rfl) hS ?_
  try simp only [Act.put, List.setIfInBounds_toArray, List.set_cons_zero, List.set_cons_succ]
  refine wpAnyH_take (i := 9) (v := v1) (by simp only [List.getElem?_toArray, List.getElem?_cons_zero, List.getElem?_cons_succ]; rfl) (by kernel_rfl) (by kernel_rfl) (by kernel_rfl) (by exact fun _ _ _ h => h) (y_assign (by kernel_rfl) _ rfl _ rfl) hS ?_
  try simp only [Act.put, List.setIfInBounds_toArray, List.set_cons_zero, List.set_cons_succ]
  refine wpAnyH_take (i := 10) (v := (.bool false)) (by simp only [List.getElem?_toArray, List.getElem?_cons_zero, List.getElem?_cons_succ]; rfl) (by kernel_rfl) (by kernel_rfl) (by kernel_rfl) (by exact fun _ _ _ h => h) (y_assign (by kernel_rfl) _ rfl _ rfl) hS ?_
  try simp only [Act.put, List.setIfInBounds_toArray, List.set_cons_zero, List.set_cons_succ]
  refine wpAnyH_done (by kernel_rfl) ?_ _
  have HU : Hid (Cs W.drew F sb g bk most ord mb mq N D V E ks bl cnt ∧ W.drew.heap[w.heap.size]? = some (.cells (bv key).toArray 38 (0, 0)) ∧ Vo F W.drew (.slice sa m sc) x ∧ Below w.heap.size w W.drew) := HW.out _ hS
  clear hS HW HL
  go_wp2_with fail
  generalize W.drew = w1 at HU ⊢
  have hl32 : (bv key).length = 32 := by rw [bv_len]; exact HK.out.1.1
  have c3 : ∀ o, (w1.drew.alloc o).cell? ⟨sb, 2 + 1, none⟩ = some (.slice oa ks.length oc) := fun o => by
    have := (HU.out.1.st.keep (((Below.refl w1.heap.size w1).drew).alloc (Nat.le_refl _) o)).at_.2.2.2.1
    rw [← HO.out]
    exact this
  have c3' : w1.drew.cell? ⟨sb, 2 + 1, none⟩ = some (.slice oa ks.length oc) := by
    have := HU.out.1.st.at_.2.2.2.1
    rw [← HO.out]
    exact this
  have HC : Hid ((∀ o, (w1.drew.alloc o).cell? ⟨sb, 2 + 1, none⟩ = some (.slice oa ks.length oc)) ∧ w1.drew.cell? ⟨sb, 2 + 1, none⟩ = some (.slice oa ks.length oc)) := ⟨c3, c3'⟩
  clear c3 c3'
  refine wp_region_held_drew (S := fun u => u.heap[w.heap.size]? = some (.cells (bv key).toArray 38 (0, 0))) (by kernel_rfl) (by exact HU.out.2.1) ?_
  intro hS
  change wpAnyH _ _ _ _ _ 11 _ _ _
  refine wpAnyH_take (i := 0) (v := (.pointer (some ⟨sb, 2, none⟩))) (by simp only [List.getElem?_toArray, List.getElem?_cons_zero]; rfl) (by kernel_rfl) (by kernel_rfl) (by kernel_rfl) (by exact fun _ _ _ h => h) (y_move (by kernel_rfl) _ rfl _ rfl) hS ?_
  try simp only [Act.put, List.setIfInBounds_toArray, List.set_cons_zero, List.set_cons_succ]
  refine wpAnyH_take (i := 1) (v := (.pointer (some ⟨sb, 2, none⟩))) (by simp only [List.getElem?_toArray, List.getElem?_cons_zero, List.getElem?_cons_succ]; rfl) (by kernel_rfl) (by kernel_rfl) (by kernel_rfl) (by exact fun _ _ _ h => h) (y_move (by kernel_rfl) _ rfl _ rfl) hS ?_
  try simp only [Act.put, List.setIfInBounds_toArray, List.set_cons_zero, List.set_cons_succ]
  refine wpAnyH_take (i := 2) (v := (.pointer (some ⟨sb, 2, none⟩))) (by simp only [List.getElem?_toArray, List.getElem?_cons_zero, List.getElem?_cons_succ]; rfl) (by kernel_rfl) (by kernel_rfl) (by kernel_rfl) (by exact fun _ _ _ h => h) (y_nil (by kernel_rfl) _ rfl _ rfl) hS ?_
  try simp only [Act.put, List.setIfInBounds_toArray, List.set_cons_zero, List.set_cons_succ]
  refine wpAnyH_take (i := 3) (v := (.pointer (some ⟨sb, 2 + 1, none⟩))) (by simp only [List.getElem?_toArray, List.getElem?_cons_zero, List.getElem?_cons_succ]; rfl) (by kernel_rfl) (by kernel_rfl) (by kernel_rfl) (by exact fun _ _ _ h => h) (y_f_Cch1 (by kernel_rfl) _ rfl _ _ rfl) hS ?_
  try simp only [Act.put, List.setIfInBounds_toArray, List.set_cons_zero, List.set_cons_succ]
  refine wpAnyH_take (i := 5) (v := (.agg (bv key).toArray)) (by simp only [List.getElem?_toArray, List.getElem?_cons_zero, List.getElem?_cons_succ]; rfl) (by kernel_rfl) (by kernel_rfl) (by kernel_rfl) (by exact fun _ _ _ h => h) (y_s_Hash (by kernel_rfl) _ rfl _ _ rfl key HK.out.1.1 (fun u hs => blk_rng hs)) hS ?_
  try simp only [Act.put, List.setIfInBounds_toArray, List.set_cons_zero, List.set_cons_succ]
  refine wpAnyH_ready (rs := [4, 6]) (by kernel_rfl) (by simp) ?_
  refine AllReadyH.cons (by simp only [List.getElem?_toArray, List.getElem?_cons_zero, List.getElem?_cons_succ]; rfl) (fun K hK => ?_) (AllReadyH.cons (by simp only [List.getElem?_toArray, List.getElem?_cons_zero, List.getElem?_cons_succ]; rfl) (fun K hK => ?_) AllReadyH.nil)
  · refine r_yield (y_l_hs (by kernel_rfl) _ rfl _ _ rfl (.slice oa ks.length oc) (fun u hs => by rw [hs]; exact HC.out.2)) ?_
    refine hK.out _ _ hS (fun hS => ?_)
    clear hK K
    try simp only [Act.put, List.setIfInBounds_toArray, List.set_cons_zero, List.set_cons_succ]
    refine wpAnyH_ready (rs := [6]) (by kernel_rfl) (by simp) ?_
    refine AllReadyH.cons (by simp only [List.getElem?_toArray, List.getElem?_cons_zero, List.getElem?_cons_succ]; rfl) (fun K hK => ?_) AllReadyH.nil
    refine r_one_hs (by kernel_rfl) _ rfl (.agg (bv key).toArray) (bv key) rfl rfl hl32 ?_
    refine hK.out _ _ ((heap_alloc_old _ _ (Array.getElem?_eq_some_iff.1 hS).1).trans hS) (fun hS => ?_)
    clear hK K
    try simp only [Act.put, List.setIfInBounds_toArray, List.set_cons_zero, List.set_cons_succ]
    refine wpAnyH_ready (rs := [7]) (by kernel_rfl) (by simp) ?_
    refine AllReadyH.cons (by simp only [List.getElem?_toArray, List.getElem?_cons_zero, List.getElem?_cons_succ]; rfl) (fun K hK => ?_) AllReadyH.nil
    have bA : Below w1.heap.size w1 (w1.drew.alloc (.cells (bv key).toArray 38)) := ((Below.refl w1.heap.size w1).drew).alloc (Nat.le_refl _) _
    have hCs := HU.out.1.keep bA
    have hVo := HU.out.2.2.1.keep bA
    refine r_app_hs (by kernel_rfl) _ _ rfl (.slice oa ks.length oc) ks.length (hcs ks) rfl (by rw [← HO.out]; exact hCs.od) w1.drew.heap.size (bv key) rfl hl32 (rng_new _ _ _) (fun u hu => by
      obtain ⟨y, _, rfl⟩ := List.mem_map.1 hu
      rfl) (by have := hCs.n; have := HK.out.2.1; omega) ?_
    intro v' u5 own5 gr5 at5
    have gr5' : (w1.drew.alloc (.cells (bv key).toArray 38)).grownBy u5 ord.ownBlock := by rw [HO.out]; exact gr5
    have at5' : v'.ownBlock = ord.ownBlock ∨ v'.ownBlock = some (w1.drew.alloc (.cells (bv key).toArray 38)).heap.size := by rw [HO.out]; exact at5
    have t5 : Turn (fun i => ord.ownBlock = some i) (w1.drew.alloc (.cells (bv key).toArray 38)) u5 := Turn.of_grown gr5' (fun _ e => e)
    have hS5 : u5.heap[w.heap.size]? = some (.cells (bv key).toArray 38 (0, 0)) := t5.at_new hS (fun e => by have := HOL.out _ e; omega)
    have hSt5 := hCs.st.turn t5 (fun e => own_ne_cells hCs.od hCs.st.blk (by decide) e)
    have hBl5 := hCs.bl.turn t5 (own_ne_map hCs.od hCs.bl.mh.map) (Off.row hCs.od (by decide))
    have hBd5 : EmpM u5 mq := hCs.bad.turn t5 (own_ne_map hCs.od hCs.bad.own)
    have hVo5 := hVo.turn t5 (fun i e _ => hCs.fo i e)
    have hT5 : Turn F w u5 := ((Turn.of_below (F := F) HU.out.2.2.2).trans (Turn.of_below (F := F) bA) (fun _ q => Or.inl q)).trans t5 (fun i e => Or.inl (hCs.fo i e))
    have own5' : u5.ownsRow 0 38 32 v' (ks ++ [key]).length (hcs (ks ++ [key])) := by
      rw [hcs_app, List.length_append]
      exact own5
    have hfo5 : ∀ b, v'.ownBlock = some b → F b := fun b hb => by
      rcases at5' with e | e
      · exact hCs.fo b (e ▸ hb)
      · rw [e] at hb
        exact HF.out b (by have := Option.some.inj hb; have := HU.out.2.2.2.size; have := bA.size; omega)
    obtain ⟨ua, uc, eu⟩ := own_slice own5
    subst eu
    clear own5 gr5 at5 gr5' at5'
    refine hK.out _ _ hS5 (fun hS => ?_)
    clear hK K
    try simp only [Act.put, List.setIfInBounds_toArray, List.set_cons_zero, List.set_cons_succ]
    refine wpAnyH_take (i := 8) (v := (.pointer (some ⟨sb, 2, none⟩))) (by simp only [List.getElem?_toArray, List.getElem?_cons_zero, List.getElem?_cons_succ]; rfl) (by kernel_rfl) (by kernel_rfl) (by kernel_rfl) (by exact fun _ _ _ h => h) (y_nil (by kernel_rfl) _ rfl _ rfl) hS ?_
    try simp only [Act.put, List.setIfInBounds_toArray, List.set_cons_zero, List.set_cons_succ]
    refine wpAnyH_take (i := 9) (v := (.pointer (some ⟨sb, 2 + 1, none⟩))) (by simp only [List.getElem?_toArray, List.getElem?_cons_zero, List.getElem?_cons_succ]; rfl) (by kernel_rfl) (by kernel_rfl) (by kernel_rfl) (by exact fun _ _ _ h => h) (y_f_Cch1 (by kernel_rfl) _ rfl _ _ rfl) hS ?_
    try simp only [Act.put, List.setIfInBounds_toArray, List.set_cons_zero, List.set_cons_succ]
    refine wpAnyH_ready (rs := [10]) (by kernel_rfl) (by simp) ?_
    refine AllReadyH.cons (by simp only [List.getElem?_toArray, List.getElem?_cons_zero, List.getElem?_cons_succ]; rfl) (fun K hK => ?_) AllReadyH.nil
    refine r_s_hs (by kernel_rfl) _ _ rfl sb (2 + 1) rfl (.slice ua (ks.length + 1) uc) _ rfl ⟨_, _, _, rfl⟩ hSt5.at_.2.2.2.1 (by simp [World.frozen?, hSt5.blk]) ?_
    have t6 : Turn (fun i => i = sb) u5 (u5.setCell ⟨sb, 2 + 1, none⟩ (.slice ua (ks.length + 1) uc)) := Turn.setCell _ _ _ rfl
    have hS6 : (u5.setCell ⟨sb, 2 + 1, none⟩ (.slice ua (ks.length + 1) uc)).heap[w.heap.size]? = some (.cells (bv key).toArray 38 (0, 0)) := t6.at_new hS (by have := HSB.out.1; omega)
    have HV6 : Hid (Stb (u5.setCell ⟨sb, 2 + 1, none⟩ (.slice ua (ks.length + 1) uc)) sb g bk most (.slice ua (ks.length + 1) uc) mb mq ∧ Bl (u5.setCell ⟨sb, 2 + 1, none⟩ (.slice ua (ks.length + 1) uc)) E mb N D V bl cnt ∧ (u5.setCell ⟨sb, 2 + 1, none⟩ (.slice ua (ks.length + 1) uc)).ownsRow 0 38 32 (.slice ua (ks.length + 1) uc) (ks ++ [key]).length (hcs (ks ++ [key])) ∧ EmpM (u5.setCell ⟨sb, 2 + 1, none⟩ (.slice ua (ks.length + 1) uc)) mq ∧ Vo F (u5.setCell ⟨sb, 2 + 1, none⟩ (.slice ua (ks.length + 1) uc)) (.slice sa m sc) x ∧ (u5.setCell ⟨sb, 2 + 1, none⟩ (.slice ua (ks.length + 1) uc)).heap[w.heap.size]? = some (.cells (bv key).toArray 38 (0, 0)) ∧ Turn F w (u5.setCell ⟨sb, 2 + 1, none⟩ (.slice ua (ks.length + 1) uc)) ∧ (∀ b, Value.ownBlock (.slice ua (ks.length + 1) uc) = some b → F b)) :=
      ⟨hSt5.setOrd _, hBl5.turn t6 (ne_map_blk hSt5.blk hBl5.mh.map) (Off.stb hSt5 (by decide)), own_off own5' t6 (Off.stb hSt5 (by decide)), hBd5.turn t6 (ne_map_blk hSt5.blk hBd5.own), hVo5.turn t6 (fun i e _ => by rw [e]; exact hCs.fs.1), hS6, hT5.trans t6 (fun i e => Or.inl (by rw [e]; exact hCs.fs.1)), hfo5⟩
    have HCS : Hid (mb ≠ mq ∧ (F sb ∧ F mb ∧ F mq) ∧ (∀ i, E i → F i) ∧ (∀ k ∈ ks, IsH k) ∧ ks.length ≤ N) := ⟨hCs.ne, hCs.fs, hCs.fe, hCs.key, hCs.n⟩
    refine hK.out _ _ hS6 (fun _ => ?_)
    clear hS hS6 t6 hSt5 hBl5 hBd5 hVo5 hT5 own5' hfo5 hS5 t5 hCs hVo bA
    clear hK K
    try simp only [Act.put]
    refine wpAnyH_done (by kernel_rfl) ?_ _
    clear HC HU
    revert HV6
    generalize (u5.setCell ⟨sb, 2 + 1, none⟩ (.slice ua (ks.length + 1) uc)) = u7
    intro HV7
    go_wp2_with fail
    refine wp_region_held_drew (S := fun u => u.heap[w.heap.size]? = some (.cells (bv key).toArray 38 (0, 0)) ∧ Stb u sb g bk most (.slice ua (ks.length + 1) uc) mb mq) (by kernel_rfl) (by exact ⟨HV7.out.2.2.2.2.2.1, ⟨HV7.out.1.blk⟩⟩) ?_
    intro hS
    change wpAnyH _ _ _ _ _ 8 _ _ _
    refine wpAnyH_take (i := 0) (v := (.pointer (some ⟨sb, 2, none⟩))) (by simp only [List.getElem?_toArray, List.getElem?_cons_zero]; rfl) (by kernel_rfl) (by kernel_rfl) (by kernel_rfl) (by exact fun _ _ _ h => h) (y_move (by kernel_rfl) _ rfl _ rfl) hS ?_
    try simp only [Act.put, List.setIfInBounds_toArray, List.set_cons_zero, List.set_cons_succ]
    refine wpAnyH_take (i := 1) (v := (.pointer (some ⟨sb, 2, none⟩))) (by simp only [List.getElem?_toArray, List.getElem?_cons_zero, List.getElem?_cons_succ]; rfl) (by kernel_rfl) (by kernel_rfl) (by kernel_rfl) (by exact fun _ _ _ h => h) (y_nil (by kernel_rfl) _ rfl _ rfl) hS ?_
    try simp only [Act.put, List.setIfInBounds_toArray, List.set_cons_zero, List.set_cons_succ]
    refine wpAnyH_take (i := 2) (v := (.pointer (some ⟨sb, 2 + 2, none⟩))) (by simp only [List.getElem?_toArray, List.getElem?_cons_zero, List.getElem?_cons_succ]; rfl) (by kernel_rfl) (by kernel_rfl) (by kernel_rfl) (by exact fun _ _ _ h => h) (y_f_Cch2 (by kernel_rfl) _ rfl _ _ rfl) hS ?_
    try simp only [Act.put, List.setIfInBounds_toArray, List.set_cons_zero, List.set_cons_succ]
    refine wpAnyH_take (i := 3) (v := (.map (some mb))) (by simp only [List.getElem?_toArray, List.getElem?_cons_zero, List.getElem?_cons_succ]; rfl) (by kernel_rfl) (by kernel_rfl) (by kernel_rfl) (by exact fun _ _ _ h => h) (y_l_mb (by kernel_rfl) _ rfl _ _ rfl _ (fun u hs => hs.2.at_.2.2.2.2.1)) hS ?_
    try simp only [Act.put, List.setIfInBounds_toArray, List.set_cons_zero, List.set_cons_succ]
    refine wpAnyH_take (i := 4) (v := (.agg (bv key).toArray)) (by simp only [List.getElem?_toArray, List.getElem?_cons_zero, List.getElem?_cons_succ]; rfl) (by kernel_rfl) (by kernel_rfl) (by kernel_rfl) (by exact fun _ _ _ h => h) (y_s_Hash (by kernel_rfl) _ rfl _ _ rfl key HK.out.1.1 (fun u hs => blk_rng hs.1)) hS ?_
    try simp only [Act.put, List.setIfInBounds_toArray, List.set_cons_zero, List.set_cons_succ]
    refine wpAnyH_take (i := 5) (v := (.slice sa m sc)) (by simp only [List.getElem?_toArray, List.getElem?_cons_zero, List.getElem?_cons_succ]; rfl) (by kernel_rfl) (by kernel_rfl) (by kernel_rfl) (by exact fun _ _ _ h => h) (y_move (by kernel_rfl) _ rfl _ rfl) hS ?_
    try simp only [Act.put, List.setIfInBounds_toArray, List.set_cons_zero, List.set_cons_succ]
    refine wpAnyH_ready (rs := [6]) (by kernel_rfl) (by simp) ?_
    refine AllReadyH.cons (by simp only [List.getElem?_toArray, List.getElem?_cons_zero, List.getElem?_cons_succ]; rfl) (fun K hK => ?_) AllReadyH.nil
    have bD : Below u7.heap.size u7 u7.drew := (Below.refl _ _).drew
    go_simp
    refine (bclone_any (HV7.out.2.2.2.2.1.keep bD).vb).mono ?_
    rintro _ u8 ⟨nv, rfl, hA⟩
    have b8 := ch bD hA.below
    obtain ⟨na, nc, en⟩ := hA.form
    subst en
    have hlA := (fun b hb => (hA.own.lt b hb).1 : ∀ b, (Value.slice na x.length nc).ownBlock = some b → u7.drew.heap.size ≤ b)
    have hDat : Dat u8 (fun i => E i ∨ (Value.slice na x.length nc).ownBlock = some i) (.slice na x.length nc) x := (hA.dat HK.out.2.2.1).mono (fun i q => Or.inr q)
    have hSt8 := HV7.out.1.keep b8
    have hBl8 := (HV7.out.2.1.turn (G := fun _ => False) (Turn.of_below b8) (fun q => q) (Off.none _ _)).mono (E' := fun i => E i ∨ (Value.slice na x.length nc).ownBlock = some i) (fun i q => Or.inl q) (Nat.le_refl _)
    have hOd8 := own_off HV7.out.2.2.1 (G := fun _ => False) (Turn.of_below b8) (Off.none _ _)
    have hBd8 : EmpM u8 mq := HV7.out.2.2.2.1.turn (G := fun _ => False) (Turn.of_below b8) (fun q => q)
    have hT8 : Turn F w u8 := HV7.out.2.2.2.2.2.2.1.trans (Turn.of_below (F := F) b8) (fun _ q => Or.inl q)
    have hS8 : u8.heap[w.heap.size]? = some (.cells (bv key).toArray 38 (0, 0)) ∧ Stb u8 sb g bk most (.slice ua (ks.length + 1) uc) mb mq := ⟨(b8.block _ (Array.getElem?_eq_some_iff.1 HV7.out.2.2.2.2.2.1).1).trans HV7.out.2.2.2.2.2.1, hSt8⟩
    have hsz7 : w.heap.size ≤ u7.drew.heap.size := HV7.out.2.2.2.2.2.2.1.size
    clear hA
    refine hK.out _ _ hS8 (fun hS => ?_)
    clear hK K
    try simp only [Act.put, List.setIfInBounds_toArray, List.set_cons_zero, List.set_cons_succ]
    refine wpAnyH_ready (rs := [7]) (by kernel_rfl) (by simp) ?_
    refine AllReadyH.cons (by simp only [List.getElem?_toArray, List.getElem?_cons_zero, List.getElem?_cons_succ]; rfl) (fun K hK => ?_) AllReadyH.nil
    obtain ⟨u9, hr9, hBl9, t9⟩ := hBl8.put (by unfold maxLen; have := HK.out.2.1; omega) Tryz.underlying97 HK.out.1 hDat
    refine r_update (by kernel_rfl) _ _ _ _ rfl _ _ _ u9 rfl rfl rfl hr9 ?_
    have hSt9 := hSt8.turn t9 (fun e => ne_map_blk hSt8.blk hBl8.mh.map e.symm)
    have hS9 : u9.heap[w.heap.size]? = some (.cells (bv key).toArray 38 (0, 0)) ∧ Stb u9 sb g bk most (.slice ua (ks.length + 1) uc) mb mq := ⟨t9.at_new hS.1 (by have := HSB.out.2; omega), hSt9⟩
    have hcnt : (if (bl key).isSome then cnt else cnt + 1) = cnt + 1 := by rw [HK.out.2.2.2]; rfl
    rw [hcnt] at hBl9
    have HV9 : Hid (Turn F w u9 ∧ ∃ D' V' E', Cs u9 F sb g bk most (.slice ua (ks.length + 1) uc) mb mq (N + 1) D' V' E' (ks ++ [key]) (fun k' => if k' = key then some x else bl k') (cnt + 1)) := by
      refine ⟨hT8.trans t9 (fun i e => Or.inl (by rw [e]; exact HCS.out.2.1.2.1)), _, _, _, ⟨hSt9, hBl9, own_off hOd8 t9 (Off.map hBl8.mh.map _), hBd8.turn t9 (fun e => HCS.out.1 e.symm), HCS.out.1, HCS.out.2.1, HV7.out.2.2.2.2.2.2.2, fun i q => ?_, fun k hk => ?_, ?_⟩⟩
      · rcases q with q | q
        · exact HCS.out.2.2.1 i q
        · exact HF.out i (Nat.le_trans hsz7 (hlA i q))
      · rcases List.mem_append.1 hk with q | q
        · exact HCS.out.2.2.2.1 k q
        · rw [List.mem_singleton.1 q]; exact HK.out.1
      · rw [List.length_append]; have := HCS.out.2.2.2.2; simp; omega
    have HS9 : Hid (Stb u9 sb g bk most (.slice ua (ks.length + 1) uc) mb mq) := hSt9
    refine hK.out _ _ hS9 (fun _ => ?_)
    clear hS hS8 hS9 hSt9 hBl9 t9 hSt8 hBl8 hOd8 hBd8 hT8 hDat hlA b8 hcnt hr9 hsz7
    clear hK K
    try simp only [Act.put]
    refine wpAnyH_done (by kernel_rfl) ?_ _
    clear HV7
    go_wp2_with fail
    have hgt : decide (most < ((ks.length + 1 : Nat) : Int)) = false := decide_eq_false (by omega)
    refine wp_region_held_drew (S := fun u => Stb u sb g bk most (.slice ua (ks.length + 1) uc) mb mq) (by kernel_rfl) (by exact ⟨HS9.out.blk⟩) ?_
    intro hS
    change wpAnyH _ _ _ _ _ 10 _ _ _
    refine wpAnyH_take (i := 0) (v := (.pointer (some ⟨sb, 2, none⟩))) (by simp only [List.getElem?_toArray, List.getElem?_cons_zero]; rfl) (by kernel_rfl) (by kernel_rfl) (by kernel_rfl) (by exact fun _ _ _ h => h) (y_move (by kernel_rfl) _ rfl _ rfl) hS ?_
    try simp only [Act.put, List.setIfInBounds_toArray, List.set_cons_zero, List.set_cons_succ]
    refine wpAnyH_take (i := 1) (v := (.pointer (some ⟨sb, 2, none⟩))) (by simp only [List.getElem?_toArray, List.getElem?_cons_zero, List.getElem?_cons_succ]; rfl) (by kernel_rfl) (by kernel_rfl) (by kernel_rfl) (by exact fun _ _ _ h => h) (y_nil (by kernel_rfl) _ rfl _ rfl) hS ?_
    try simp only [Act.put, List.setIfInBounds_toArray, List.set_cons_zero, List.set_cons_succ]
    refine wpAnyH_take (i := 2) (v := (.pointer (some ⟨sb, 2 + 1, none⟩))) (by simp only [List.getElem?_toArray, List.getElem?_cons_zero, List.getElem?_cons_succ]; rfl) (by kernel_rfl) (by kernel_rfl) (by kernel_rfl) (by exact fun _ _ _ h => h) (y_f_Cch1 (by kernel_rfl) _ rfl _ _ rfl) hS ?_
    try simp only [Act.put, List.setIfInBounds_toArray, List.set_cons_zero, List.set_cons_succ]
    refine wpAnyH_take (i := 3) (v := (.slice ua (ks.length + 1) uc)) (by simp only [List.getElem?_toArray, List.getElem?_cons_zero, List.getElem?_cons_succ]; rfl) (by kernel_rfl) (by kernel_rfl) (by kernel_rfl) (by exact fun _ _ _ h => h) (y_l_hs (by kernel_rfl) _ rfl _ _ rfl _ (fun u hs => hs.at_.2.2.2.1)) hS ?_
    try simp only [Act.put, List.setIfInBounds_toArray, List.set_cons_zero, List.set_cons_succ]
    refine wpAnyH_take (i := 4) (v := (.int .i64 ((ks.length + 1 : Nat) : Int))) (by simp only [List.getElem?_toArray, List.getElem?_cons_zero, List.getElem?_cons_succ]; rfl) (by kernel_rfl) (by kernel_rfl) (by kernel_rfl) (by exact fun _ _ _ h => h) (y_lenH (by kernel_rfl) _ rfl _ _ _ rfl) hS ?_
    try simp only [Act.put, List.setIfInBounds_toArray, List.set_cons_zero, List.set_cons_succ]
    refine wpAnyH_take (i := 5) (v := (.pointer (some ⟨sb, 2, none⟩))) (by simp only [List.getElem?_toArray, List.getElem?_cons_zero, List.getElem?_cons_succ]; rfl) (by kernel_rfl) (by kernel_rfl) (by kernel_rfl) (by exact fun _ _ _ h => h) (y_move (by kernel_rfl) _ rfl _ rfl) hS ?_
    try simp only [Act.put, List.setIfInBounds_toArray, List.set_cons_zero, List.set_cons_succ]
    refine wpAnyH_take (i := 6) (v := (.pointer (some ⟨sb, 2, none⟩))) (by simp only [List.getElem?_toArray, List.getElem?_cons_zero, List.getElem?_cons_succ]; rfl) (by kernel_rfl) (by kernel_rfl) (by kernel_rfl) (by exact fun _ _ _ h => h) (y_nil (by kernel_rfl) _ rfl _ rfl) hS ?_
    try simp only [Act.put, List.setIfInBounds_toArray, List.set_cons_zero, List.set_cons_succ]
    refine wpAnyH_take (i := 7) (v := (.pointer (some ⟨sb, 2, none⟩))) (by simp only [List.getElem?_toArray, List.getElem?_cons_zero, List.getElem?_cons_succ]; rfl) (by kernel_rfl) (by kernel_rfl) (by kernel_rfl) (by exact fun _ _ _ h => h) (y_f_Cch0 (by kernel_rfl) _ rfl _ _ rfl) hS ?_
    try simp only [Act.put, List.setIfInBounds_toArray, List.set_cons_zero, List.set_cons_succ]
    refine wpAnyH_take (i := 8) (v := (.int .i64 most)) (by simp only [List.getElem?_toArray, List.getElem?_cons_zero, List.getElem?_cons_succ]; rfl) (by kernel_rfl) (by kernel_rfl) (by kernel_rfl) (by exact fun _ _ _ h => h) (y_l_int (by kernel_rfl) _ rfl _ _ rfl _ (fun u hs => hs.at_.2.2.1)) hS ?_
    try simp only [Act.put, List.setIfInBounds_toArray, List.set_cons_zero, List.set_cons_succ]
    refine wpAnyH_take (i := 9) (v := (.bool false)) (by simp only [List.getElem?_toArray, List.getElem?_cons_zero, List.getElem?_cons_succ]; rfl) (by kernel_rfl) (by kernel_rfl) (by kernel_rfl) (by exact fun _ _ _ h => h) (y_gtrIr (by kernel_rfl) _ _ rfl _ _ rfl rfl false hgt) hS ?_
    try simp only [Act.put, List.setIfInBounds_toArray, List.set_cons_zero, List.set_cons_succ]
    refine wpAnyH_done (by kernel_rfl) ?_ _
    have HV10 : Hid (Turn F w u9.drew ∧ ∃ D' V' E', Cs u9.drew F sb g bk most (.slice ua (ks.length + 1) uc) mb mq (N + 1) D' V' E' (ks ++ [key]) (fun k' => if k' = key then some x else bl k') (cnt + 1)) := by
      obtain ⟨q1, D', V', E', q2⟩ := HV9.out
      exact ⟨q1.trans (Turn.drew (F := F) _) (fun _ q => Or.inl q), D', V', E', q2.keep (Below.refl _ _).drew⟩
    clear HV9 HS9 hS hgt
    go_wp2_with fail
    have fin : ∃ ord' D' V' E', Cs u9.drew F sb g bk most ord' mb mq (N + 1) D' V' E' (ks ++ [key]) (fun k' => if k' = key then some x else bl k') (cnt + 1) ∧ Turn F w u9.drew := by
      obtain ⟨q1, D', V', E', q2⟩ := HV10.out
      exact ⟨_, D', V', E', q2, q1⟩
    exact bodyPost_end (results_none rfl _ _ _) rfl ⟨⟨_, rfl⟩, fin⟩
  · refine r_one_hs (by kernel_rfl) _ rfl (.agg (bv key).toArray) (bv key) rfl rfl hl32 ?_
    refine hK.out _ _ ((heap_alloc_old _ _ (Array.getElem?_eq_some_iff.1 hS).1).trans hS) (fun hS => ?_)
    clear hK K
    try simp only [Act.put, List.setIfInBounds_toArray, List.set_cons_zero, List.set_cons_succ]
    refine wpAnyH_ready (rs := [4]) (by kernel_rfl) (by simp) ?_
    refine AllReadyH.cons (by simp only [List.getElem?_toArray, List.getElem?_cons_zero, List.getElem?_cons_succ]; rfl) (fun K hK => ?_) AllReadyH.nil
    refine r_yield (y_l_hs (by kernel_rfl) _ rfl _ _ rfl (.slice oa ks.length oc) (fun u hs => by rw [hs]; exact HC.out.1 _)) ?_
    refine hK.out _ _ hS (fun hS => ?_)
    clear hK K
    try simp only [Act.put, List.setIfInBounds_toArray, List.set_cons_zero, List.set_cons_succ]
    refine wpAnyH_ready (rs := [7]) (by kernel_rfl) (by simp) ?_
    refine AllReadyH.cons (by simp only [List.getElem?_toArray, List.getElem?_cons_zero, List.getElem?_cons_succ]; rfl) (fun K hK => ?_) AllReadyH.nil
    have bA : Below w1.heap.size w1 (w1.drew.alloc (.cells (bv key).toArray 38)) := ((Below.refl w1.heap.size w1).drew).alloc (Nat.le_refl _) _
    have hCs := HU.out.1.keep bA
    have hVo := HU.out.2.2.1.keep bA
    refine r_app_hs (by kernel_rfl) _ _ rfl (.slice oa ks.length oc) ks.length (hcs ks) rfl (by rw [← HO.out]; exact hCs.od) w1.drew.heap.size (bv key) rfl hl32 (rng_new _ _ _) (fun u hu => by
      obtain ⟨y, _, rfl⟩ := List.mem_map.1 hu
      rfl) (by have := hCs.n; have := HK.out.2.1; omega) ?_
    intro v' u5 own5 gr5 at5
    have gr5' : (w1.drew.alloc (.cells (bv key).toArray 38)).grownBy u5 ord.ownBlock := by rw [HO.out]; exact gr5
    have at5' : v'.ownBlock = ord.ownBlock ∨ v'.ownBlock = some (w1.drew.alloc (.cells (bv key).toArray 38)).heap.size := by rw [HO.out]; exact at5
    have t5 : Turn (fun i => ord.ownBlock = some i) (w1.drew.alloc (.cells (bv key).toArray 38)) u5 := Turn.of_grown gr5' (fun _ e => e)
    have hS5 : u5.heap[w.heap.size]? = some (.cells (bv key).toArray 38 (0, 0)) := t5.at_new hS (fun e => by have := HOL.out _ e; omega)
    have hSt5 := hCs.st.turn t5 (fun e => own_ne_cells hCs.od hCs.st.blk (by decide) e)
    have hBl5 := hCs.bl.turn t5 (own_ne_map hCs.od hCs.bl.mh.map) (Off.row hCs.od (by decide))
    have hBd5 : EmpM u5 mq := hCs.bad.turn t5 (own_ne_map hCs.od hCs.bad.own)
    have hVo5 := hVo.turn t5 (fun i e _ => hCs.fo i e)
    have hT5 : Turn F w u5 := ((Turn.of_below (F := F) HU.out.2.2.2).trans (Turn.of_below (F := F) bA) (fun _ q => Or.inl q)).trans t5 (fun i e => Or.inl (hCs.fo i e))
    have own5' : u5.ownsRow 0 38 32 v' (ks ++ [key]).length (hcs (ks ++ [key])) := by
      rw [hcs_app, List.length_append]
      exact own5
    have hfo5 : ∀ b, v'.ownBlock = some b → F b := fun b hb => by
      rcases at5' with e | e
      · exact hCs.fo b (e ▸ hb)
      · rw [e] at hb
        exact HF.out b (by have := Option.some.inj hb; have := HU.out.2.2.2.size; have := bA.size; omega)
    obtain ⟨ua, uc, eu⟩ := own_slice own5
    subst eu
    clear own5 gr5 at5 gr5' at5'
    refine hK.out _ _ hS5 (fun hS => ?_)
    clear hK K
    try simp only [Act.put, List.setIfInBounds_toArray, List.set_cons_zero, List.set_cons_succ]
    refine wpAnyH_take (i := 8) (v := (.pointer (some ⟨sb, 2, none⟩))) (by simp only [List.getElem?_toArray, List.getElem?_cons_zero, List.getElem?_cons_succ]; rfl) (by kernel_rfl) (by kernel_rfl) (by kernel_rfl) (by exact fun _ _ _ h => h) (y_nil (by kernel_rfl) _ rfl _ rfl) hS ?_
    try simp only [Act.put, List.setIfInBounds_toArray, List.set_cons_zero, List.set_cons_succ]
    refine wpAnyH_take (i := 9) (v := (.pointer (some ⟨sb, 2 + 1, none⟩))) (by simp only [List.getElem?_toArray, List.getElem?_cons_zero, List.getElem?_cons_succ]; rfl) (by kernel_rfl) (by kernel_rfl) (by kernel_rfl) (by exact fun _ _ _ h => h) (y_f_Cch1 (by kernel_rfl) _ rfl _ _ rfl) hS ?_
    try simp only [Act.put, List.setIfInBounds_toArray, List.set_cons_zero, List.set_cons_succ]
    refine wpAnyH_ready (rs := [10]) (by kernel_rfl) (by simp) ?_
    refine AllReadyH.cons (by simp only [List.getElem?_toArray, List.getElem?_cons_zero, List.getElem?_cons_succ]; rfl) (fun K hK => ?_) AllReadyH.nil
    refine r_s_hs (by kernel_rfl) _ _ rfl sb (2 + 1) rfl (.slice ua (ks.length + 1) uc) _ rfl ⟨_, _, _, rfl⟩ hSt5.at_.2.2.2.1 (by simp [World.frozen?, hSt5.blk]) ?_
    have t6 : Turn (fun i => i = sb) u5 (u5.setCell ⟨sb, 2 + 1, none⟩ (.slice ua (ks.length + 1) uc)) := Turn.setCell _ _ _ rfl
    have hS6 : (u5.setCell ⟨sb, 2 + 1, none⟩ (.slice ua (ks.length + 1) uc)).heap[w.heap.size]? = some (.cells (bv key).toArray 38 (0, 0)) := t6.at_new hS (by have := HSB.out.1; omega)
    have HV6 : Hid (Stb (u5.setCell ⟨sb, 2 + 1, none⟩ (.slice ua (ks.length + 1) uc)) sb g bk most (.slice ua (ks.length + 1) uc) mb mq ∧ Bl (u5.setCell ⟨sb, 2 + 1, none⟩ (.slice ua (ks.length + 1) uc)) E mb N D V bl cnt ∧ (u5.setCell ⟨sb, 2 + 1, none⟩ (.slice ua (ks.length + 1) uc)).ownsRow 0 38 32 (.slice ua (ks.length + 1) uc) (ks ++ [key]).length (hcs (ks ++ [key])) ∧ EmpM (u5.setCell ⟨sb, 2 + 1, none⟩ (.slice ua (ks.length + 1) uc)) mq ∧ Vo F (u5.setCell ⟨sb, 2 + 1, none⟩ (.slice ua (ks.length + 1) uc)) (.slice sa m sc) x ∧ (u5.setCell ⟨sb, 2 + 1, none⟩ (.slice ua (ks.length + 1) uc)).heap[w.heap.size]? = some (.cells (bv key).toArray 38 (0, 0)) ∧ Turn F w (u5.setCell ⟨sb, 2 + 1, none⟩ (.slice ua (ks.length + 1) uc)) ∧ (∀ b, Value.ownBlock (.slice ua (ks.length + 1) uc) = some b → F b)) :=
      ⟨hSt5.setOrd _, hBl5.turn t6 (ne_map_blk hSt5.blk hBl5.mh.map) (Off.stb hSt5 (by decide)), own_off own5' t6 (Off.stb hSt5 (by decide)), hBd5.turn t6 (ne_map_blk hSt5.blk hBd5.own), hVo5.turn t6 (fun i e _ => by rw [e]; exact hCs.fs.1), hS6, hT5.trans t6 (fun i e => Or.inl (by rw [e]; exact hCs.fs.1)), hfo5⟩
    have HCS : Hid (mb ≠ mq ∧ (F sb ∧ F mb ∧ F mq) ∧ (∀ i, E i → F i) ∧ (∀ k ∈ ks, IsH k) ∧ ks.length ≤ N) := ⟨hCs.ne, hCs.fs, hCs.fe, hCs.key, hCs.n⟩
    refine hK.out _ _ hS6 (fun _ => ?_)
    clear hS hS6 t6 hSt5 hBl5 hBd5 hVo5 hT5 own5' hfo5 hS5 t5 hCs hVo bA
    clear hK K
    try simp only [Act.put]
    refine wpAnyH_done (by kernel_rfl) ?_ _
    clear HC HU
    revert HV6
    generalize (u5.setCell ⟨sb, 2 + 1, none⟩ (.slice ua (ks.length + 1) uc)) = u7
    intro HV7
    go_wp2_with fail
    refine wp_region_held_drew (S := fun u => u.heap[w.heap.size]? = some (.cells (bv key).toArray 38 (0, 0)) ∧ Stb u sb g bk most (.slice ua (ks.length + 1) uc) mb mq) (by kernel_rfl) (by exact ⟨HV7.out.2.2.2.2.2.1, ⟨HV7.out.1.blk⟩⟩) ?_
    intro hS
    change wpAnyH _ _ _ _ _ 8 _ _ _
    refine wpAnyH_take (i := 0) (v := (.pointer (some ⟨sb, 2, none⟩))) (by simp only [List.getElem?_toArray, List.getElem?_cons_zero]; rfl) (by kernel_rfl) (by kernel_rfl) (by kernel_rfl) (by exact fun _ _ _ h => h) (y_move (by kernel_rfl) _ rfl _ rfl) hS ?_
    try simp only [Act.put, List.setIfInBounds_toArray, List.set_cons_zero, List.set_cons_succ]
    refine wpAnyH_take (i := 1) (v := (.pointer (some ⟨sb, 2, none⟩))) (by simp only [List.getElem?_toArray, List.getElem?_cons_zero, List.getElem?_cons_succ]; rfl) (by kernel_rfl) (by kernel_rfl) (by kernel_rfl) (by exact fun _ _ _ h => h) (y_nil (by kernel_rfl) _ rfl _ rfl) hS ?_
    try simp only [Act.put, List.setIfInBounds_toArray, List.set_cons_zero, List.set_cons_succ]
    refine wpAnyH_take (i := 2) (v := (.pointer (some ⟨sb, 2 + 2, none⟩))) (by simp only [List.getElem?_toArray, List.getElem?_cons_zero, List.getElem?_cons_succ]; rfl) (by kernel_rfl) (by kernel_rfl) (by kernel_rfl) (by exact fun _ _ _ h => h) (y_f_Cch2 (by kernel_rfl) _ rfl _ _ rfl) hS ?_
    try simp only [Act.put, List.setIfInBounds_toArray, List.set_cons_zero, List.set_cons_succ]
    refine wpAnyH_take (i := 3) (v := (.map (some mb))) (by simp only [List.getElem?_toArray, List.getElem?_cons_zero, List.getElem?_cons_succ]; rfl) (by kernel_rfl) (by kernel_rfl) (by kernel_rfl) (by exact fun _ _ _ h => h) (y_l_mb (by kernel_rfl) _ rfl _ _ rfl _ (fun u hs => hs.2.at_.2.2.2.2.1)) hS ?_
    try simp only [Act.put, List.setIfInBounds_toArray, List.set_cons_zero, List.set_cons_succ]
    refine wpAnyH_take (i := 4) (v := (.agg (bv key).toArray)) (by simp only [List.getElem?_toArray, List.getElem?_cons_zero, List.getElem?_cons_succ]; rfl) (by kernel_rfl) (by kernel_rfl) (by kernel_rfl) (by exact fun _ _ _ h => h) (y_s_Hash (by kernel_rfl) _ rfl _ _ rfl key HK.out.1.1 (fun u hs => blk_rng hs.1)) hS ?_
    try simp only [Act.put, List.setIfInBounds_toArray, List.set_cons_zero, List.set_cons_succ]
    refine wpAnyH_take (i := 5) (v := (.slice sa m sc)) (by simp only [List.getElem?_toArray, List.getElem?_cons_zero, List.getElem?_cons_succ]; rfl) (by kernel_rfl) (by kernel_rfl) (by kernel_rfl) (by exact fun _ _ _ h => h) (y_move (by kernel_rfl) _ rfl _ rfl) hS ?_
    try simp only [Act.put, List.setIfInBounds_toArray, List.set_cons_zero, List.set_cons_succ]
    refine wpAnyH_ready (rs := [6]) (by kernel_rfl) (by simp) ?_
    refine AllReadyH.cons (by simp only [List.getElem?_toArray, List.getElem?_cons_zero, List.getElem?_cons_succ]; rfl) (fun K hK => ?_) AllReadyH.nil
    have bD : Below u7.heap.size u7 u7.drew := (Below.refl _ _).drew
    go_simp
    refine (bclone_any (HV7.out.2.2.2.2.1.keep bD).vb).mono ?_
    rintro _ u8 ⟨nv, rfl, hA⟩
    have b8 := ch bD hA.below
    obtain ⟨na, nc, en⟩ := hA.form
    subst en
    have hlA := (fun b hb => (hA.own.lt b hb).1 : ∀ b, (Value.slice na x.length nc).ownBlock = some b → u7.drew.heap.size ≤ b)
    have hDat : Dat u8 (fun i => E i ∨ (Value.slice na x.length nc).ownBlock = some i) (.slice na x.length nc) x := (hA.dat HK.out.2.2.1).mono (fun i q => Or.inr q)
    have hSt8 := HV7.out.1.keep b8
    have hBl8 := (HV7.out.2.1.turn (G := fun _ => False) (Turn.of_below b8) (fun q => q) (Off.none _ _)).mono (E' := fun i => E i ∨ (Value.slice na x.length nc).ownBlock = some i) (fun i q => Or.inl q) (Nat.le_refl _)
    have hOd8 := own_off HV7.out.2.2.1 (G := fun _ => False) (Turn.of_below b8) (Off.none _ _)
    have hBd8 : EmpM u8 mq := HV7.out.2.2.2.1.turn (G := fun _ => False) (Turn.of_below b8) (fun q => q)
    have hT8 : Turn F w u8 := HV7.out.2.2.2.2.2.2.1.trans (Turn.of_below (F := F) b8) (fun _ q => Or.inl q)
    have hS8 : u8.heap[w.heap.size]? = some (.cells (bv key).toArray 38 (0, 0)) ∧ Stb u8 sb g bk most (.slice ua (ks.length + 1) uc) mb mq := ⟨(b8.block _ (Array.getElem?_eq_some_iff.1 HV7.out.2.2.2.2.2.1).1).trans HV7.out.2.2.2.2.2.1, hSt8⟩
    have hsz7 : w.heap.size ≤ u7.drew.heap.size := HV7.out.2.2.2.2.2.2.1.size
    clear hA
    refine hK.out _ _ hS8 (fun hS => ?_)
    clear hK K
    try simp only [Act.put, List.setIfInBounds_toArray, List.set_cons_zero, List.set_cons_succ]
    refine wpAnyH_ready (rs := [7]) (by kernel_rfl) (by simp) ?_
    refine AllReadyH.cons (by simp only [List.getElem?_toArray, List.getElem?_cons_zero, List.getElem?_cons_succ]; rfl) (fun K hK => ?_) AllReadyH.nil
    obtain ⟨u9, hr9, hBl9, t9⟩ := hBl8.put (by unfold maxLen; have := HK.out.2.1; omega) Tryz.underlying97 HK.out.1 hDat
    refine r_update (by kernel_rfl) _ _ _ _ rfl _ _ _ u9 rfl rfl rfl hr9 ?_
    have hSt9 := hSt8.turn t9 (fun e => ne_map_blk hSt8.blk hBl8.mh.map e.symm)
    have hS9 : u9.heap[w.heap.size]? = some (.cells (bv key).toArray 38 (0, 0)) ∧ Stb u9 sb g bk most (.slice ua (ks.length + 1) uc) mb mq := ⟨t9.at_new hS.1 (by have := HSB.out.2; omega), hSt9⟩
    have hcnt : (if (bl key).isSome then cnt else cnt + 1) = cnt + 1 := by rw [HK.out.2.2.2]; rfl
    rw [hcnt] at hBl9
    have HV9 : Hid (Turn F w u9 ∧ ∃ D' V' E', Cs u9 F sb g bk most (.slice ua (ks.length + 1) uc) mb mq (N + 1) D' V' E' (ks ++ [key]) (fun k' => if k' = key then some x else bl k') (cnt + 1)) := by
      refine ⟨hT8.trans t9 (fun i e => Or.inl (by rw [e]; exact HCS.out.2.1.2.1)), _, _, _, ⟨hSt9, hBl9, own_off hOd8 t9 (Off.map hBl8.mh.map _), hBd8.turn t9 (fun e => HCS.out.1 e.symm), HCS.out.1, HCS.out.2.1, HV7.out.2.2.2.2.2.2.2, fun i q => ?_, fun k hk => ?_, ?_⟩⟩
      · rcases q with q | q
        · exact HCS.out.2.2.1 i q
        · exact HF.out i (Nat.le_trans hsz7 (hlA i q))
      · rcases List.mem_append.1 hk with q | q
        · exact HCS.out.2.2.2.1 k q
        · rw [List.mem_singleton.1 q]; exact HK.out.1
      · rw [List.length_append]; have := HCS.out.2.2.2.2; simp; omega
    have HS9 : Hid (Stb u9 sb g bk most (.slice ua (ks.length + 1) uc) mb mq) := hSt9
    refine hK.out _ _ hS9 (fun _ => ?_)
    clear hS hS8 hS9 hSt9 hBl9 t9 hSt8 hBl8 hOd8 hBd8 hT8 hDat hlA b8 hcnt hr9 hsz7
    clear hK K
    try simp only [Act.put]
    refine wpAnyH_done (by kernel_rfl) ?_ _
    clear HV7
    go_wp2_with fail
    have hgt : decide (most < ((ks.length + 1 : Nat) : Int)) = false := decide_eq_false (by omega)
    refine wp_region_held_drew (S := fun u => Stb u sb g bk most (.slice ua (ks.length + 1) uc) mb mq) (by kernel_rfl) (by exact ⟨HS9.out.blk⟩) ?_
    intro hS
    change wpAnyH _ _ _ _ _ 10 _ _ _
    refine wpAnyH_take (i := 0) (v := (.pointer (some ⟨sb, 2, none⟩))) (by simp only [List.getElem?_toArray, List.getElem?_cons_zero]; rfl) (by kernel_rfl) (by kernel_rfl) (by kernel_rfl) (by exact fun _ _ _ h => h) (y_move (by kernel_rfl) _ rfl _ rfl) hS ?_
    try simp only [Act.put, List.setIfInBounds_toArray, List.set_cons_zero, List.set_cons_succ]
    refine wpAnyH_take (i := 1) (v := (.pointer (some ⟨sb, 2, none⟩))) (by simp only [List.getElem?_toArray, List.getElem?_cons_zero, List.getElem?_cons_succ]; rfl) (by kernel_rfl) (by kernel_rfl) (by kernel_rfl) (by exact fun _ _ _ h => h) (y_nil (by kernel_rfl) _ rfl _ rfl) hS ?_
    try simp only [Act.put, List.setIfInBounds_toArray, List.set_cons_zero, List.set_cons_succ]
    refine wpAnyH_take (i := 2) (v := (.pointer (some ⟨sb, 2 + 1, none⟩))) (by simp only [List.getElem?_toArray, List.getElem?_cons_zero, List.getElem?_cons_succ]; rfl) (by kernel_rfl) (by kernel_rfl) (by kernel_rfl) (by exact fun _ _ _ h => h) (y_f_Cch1 (by kernel_rfl) _ rfl _ _ rfl) hS ?_
    try simp only [Act.put, List.setIfInBounds_toArray, List.set_cons_zero, List.set_cons_succ]
    refine wpAnyH_take (i := 3) (v := (.slice ua (ks.length + 1) uc)) (by simp only [List.getElem?_toArray, List.getElem?_cons_zero, List.getElem?_cons_succ]; rfl) (by kernel_rfl) (by kernel_rfl) (by kernel_rfl) (by exact fun _ _ _ h => h) (y_l_hs (by kernel_rfl) _ rfl _ _ rfl _ (fun u hs => hs.at_.2.2.2.1)) hS ?_
    try simp only [Act.put, List.setIfInBounds_toArray, List.set_cons_zero, List.set_cons_succ]
    refine wpAnyH_take (i := 4) (v := (.int .i64 ((ks.length + 1 : Nat) : Int))) (by simp only [List.getElem?_toArray, List.getElem?_cons_zero, List.getElem?_cons_succ]; rfl) (by kernel_rfl) (by kernel_rfl) (by kernel_rfl) (by exact fun _ _ _ h => h) (y_lenH (by kernel_rfl) _ rfl _ _ _ rfl) hS ?_
    try simp only [Act.put, List.setIfInBounds_toArray, List.set_cons_zero, List.set_cons_succ]
    refine wpAnyH_take (i := 5) (v := (.pointer (some ⟨sb, 2, none⟩))) (by simp only [List.getElem?_toArray, List.getElem?_cons_zero, List.getElem?_cons_succ]; rfl) (by kernel_rfl) (by kernel_rfl) (by kernel_rfl) (by exact fun _ _ _ h => h) (y_move (by kernel_rfl) _ rfl _ rfl) hS ?_
    try simp only [Act.put, List.setIfInBounds_toArray, List.set_cons_zero, List.set_cons_succ]
    refine wpAnyH_take (i := 6) (v := (.pointer (some ⟨sb, 2, none⟩))) (by simp only [List.getElem?_toArray, List.getElem?_cons_zero, List.getElem?_cons_succ]; rfl) (by kernel_rfl) (by kernel_rfl) (by kernel_rfl) (by exact fun _ _ _ h => h) (y_nil (by kernel_rfl) _ rfl _ rfl) hS ?_
    try simp only [Act.put, List.setIfInBounds_toArray, List.set_cons_zero, List.set_cons_succ]
    refine wpAnyH_take (i := 7) (v := (.pointer (some ⟨sb, 2, none⟩))) (by simp only [List.getElem?_toArray, List.getElem?_cons_zero, List.getElem?_cons_succ]; rfl) (by kernel_rfl) (by kernel_rfl) (by kernel_rfl) (by exact fun _ _ _ h => h) (y_f_Cch0 (by kernel_rfl) _ rfl _ _ rfl) hS ?_
    try simp only [Act.put, List.setIfInBounds_toArray, List.set_cons_zero, List.set_cons_succ]
    refine wpAnyH_take (i := 8) (v := (.int .i64 most)) (by simp only [List.getElem?_toArray, List.getElem?_cons_zero, List.getElem?_cons_succ]; rfl) (by kernel_rfl) (by kernel_rfl) (by kernel_rfl) (by exact fun _ _ _ h => h) (y_l_int (by kernel_rfl) _ rfl _ _ rfl _ (fun u hs => hs.at_.2.2.1)) hS ?_
    try simp only [Act.put, List.setIfInBounds_toArray, List.set_cons_zero, List.set_cons_succ]
    refine wpAnyH_take (i := 9) (v := (.bool false)) (by simp only [List.getElem?_toArray, List.getElem?_cons_zero, List.getElem?_cons_succ]; rfl) (by kernel_rfl) (by kernel_rfl) (by kernel_rfl) (by exact fun _ _ _ h => h) (y_gtrIr (by kernel_rfl) _ _ rfl _ _ rfl rfl false hgt) hS ?_
    try simp only [Act.put, List.setIfInBounds_toArray, List.set_cons_zero, List.set_cons_succ]
    refine wpAnyH_done (by kernel_rfl) ?_ _
    have HV10 : Hid (Turn F w u9.drew ∧ ∃ D' V' E', Cs u9.drew F sb g bk most (.slice ua (ks.length + 1) uc) mb mq (N + 1) D' V' E' (ks ++ [key]) (fun k' => if k' = key then some x else bl k') (cnt + 1)) := by
      obtain ⟨q1, D', V', E', q2⟩ := HV9.out
      exact ⟨q1.trans (Turn.drew (F := F) _) (fun _ q => Or.inl q), D', V', E', q2.keep (Below.refl _ _).drew⟩
    clear HV9 HS9 hS hgt
    go_wp2_with fail
    have fin : ∃ ord' D' V' E', Cs u9.drew F sb g bk most ord' mb mq (N + 1) D' V' E' (ks ++ [key]) (fun k' => if k' = key then some x else bl k') (cnt + 1) ∧ Turn F w u9.drew := by
      obtain ⟨q1, D', V', E', q2⟩ := HV10.out
      exact ⟨_, D', V', E', q2, q1⟩
    exact bodyPost_end (results_none rfl _ _ _) rfl ⟨⟨_, rfl⟩, fin⟩
end Go.Proofs.YtpmdjopojcgpeaaGreatDoor
