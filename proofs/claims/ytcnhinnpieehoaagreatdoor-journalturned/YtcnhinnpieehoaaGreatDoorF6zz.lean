import Derived.Test.YtcnhinnpieehoaaGreatDoorNLfczz
namespace Go.Ev
open Go
section
variable {P : Program} {E : En}
theorem readAt_len {s : St} {b off n : Nat} {r : List Value} (h : readAt s b off n = some r) : r.length = n := by
 obtain ⟨hp, nx, gr⟩ := s
 have h' : readOb off n (hp.get b) = some r := h
 unfold readOb at h'
 split at h'
 ·obtain ⟨h1, rfl⟩ := takeO_some.1 h'; rw [List.length_take]; omega
 ·obtain ⟨h1, rfl⟩ := takeO_some.1 h'; rw [List.length_take]; omega
 ·cases h'
theorem cellsFrom_len {s : St} {size n : Nat} {y : Value} {cs : List Value} (hl : lenOfV y = some n) (h : cellsFrom s size n y = some cs) : cs.length = n * size := by
 cases y with
 | slice q l c =>
  cases q with
  | none =>
   have hc' : cond (Nat.beq n 0) (some []) none = some cs := h
   cases en : Nat.beq n 0 with
   | false => rw [en] at hc'; cases hc'
   | true => rw [en] at hc'; cases hc'; rw [Nat.eq_of_beq_eq_true en]; simp
  | some a =>
   obtain ⟨b, off, sp⟩ := a
   cases sp with
   | none => exact readAt_len (show readAt s b off (Nat.mul n size) = some cs from h)
   | some z =>
    have hc' : cond (Nat.beq n 0) (some []) none = some cs := h
    cases en : Nat.beq n 0 with
    | false => rw [en] at hc'; cases hc'
    | true => rw [en] at hc'; cases hc'; rw [Nat.eq_of_beq_eq_true en]; simp
 | string t =>
  cases hl
  have hc' : cond (Nat.beq size 1 && Nat.ble t.size t.size) (some ((t.extract 0 t.size).data.toList.map fun b => Value.int .u8 b.toNat)) none = some cs := h
  cases hq : (Nat.beq size 1 && Nat.ble t.size t.size) with
  | false => rw [hq] at hc'; cases hc'
  | true =>
   rw [hq] at hc'
   cases hc'
   simp only [Bool.and_eq_true] at hq
   rw [Nat.eq_of_beq_eq_true hq.1]
   rw [List.length_map, Nat.mul_one, Array.length_toList]
   show (t.extract 0 t.size).size = t.size
   simp
 | _ => cases h
theorem zeroFit_some {e : TypeId} {size : Nat} (h : zeroFit P e size = true) : ∃ ti z, P.info? e = some ti ∧ ti.bytes ≤ 8192 ∧ ti.zero = some z ∧ z.cells.size = size := by
 unfold zeroFit at h
 cases hti : P.info? e with
 | none => rw [hti] at h; cases h
 | some ti =>
  rw [hti] at h
  obtain ⟨h1, h2⟩ := Bool.and_eq_true_iff.1 h
  cases hz : ti.zero with
  | none => rw [hz] at h2; cases h2
  | some z =>
   have h3 : Nat.beq z.cells.toList.length size = true := by rw [hz] at h2; exact h2
   exact ⟨ti, z, rfl, Nat.le_of_ble_eq_true h1, hz, by rw [← Array.length_toList]; exact Nat.eq_of_beq_eq_true h3⟩
theorem zeroCells_size (z : Array Value) (n : Nat) : (Builtin.zeroCells z n).size = n * z.size := by simp [Builtin.zeroCells]
theorem stp_newrow {N : Nat} {s : St} {w w' : World} (h : Rel N E s w) (hn : s.nx < s.nx + 1) {cs cs' : List Value} {c : Array Value} {e : TypeId} (hc : VRs E cs cs') (hp : ∀ (i : Nat) u, cs'[i]? = some u → c[i]? = some u)
  (hw : w'.heap = w.heap.push (.cells c e)) (hos : w'.os = w.os) (htp : w'.tape = w.tape) (hout : w'.output = w.output) :
  Stp N E s w (E.push w.heap.size 0 c.size) (.mk (s.hp.set (.row cs 0) s.nx) (s.nx + 1) s.gr) w' := by
 have M : Mkd E (.row cs 0) (.cells c e) (fun b => .pointer (some ⟨b, 0, none⟩)) (fun A => .pointer (some ⟨A, 0, none⟩)) c.size := Mkd.row hc hp (thaw0 _) fun E2 A X => vr_pt E2 A _
 exact stp_new h hn rfl trivial hw hos htp hout (M.ob E w.heap.size w' (.refl E) (by rw [hw]; simp))
theorem append_cells {old' new' : List Value} {r : Array Value} (i : Nat) (u : Value) (hu : (old' ++ new')[i]? = some u) : ((⟨old'⟩ : Array Value) ++ ⟨new'⟩ ++ r)[i]? = some u := by
 have hi := getElem?_lt hu
 rw [Array.getElem?_append_left (by simpa using hi)]
 simpa using hu
theorem act_append {N : Nat} {s s' : St} {w : World} (h : Rel N E s w) {ts : Array TypeId} {ty t u e : TypeId} {d : TypeDesc} {a a' b b' : Value} {x : Nx} (h0 : ts[0]? = some t) (hu : P.underlying t = some (.slice e)) (h1 : ts[1]? = some u) (hd : P.underlying u = some d) (hz : notInt d = true)
  (ha : VR E a a') (hb : VR E b b') (hx : appendV P s e a b = .ok x s') : ActR N P E s w (do pure (.value (← Builtin.append_ ts ty ⟨[a', b']⟩))) x s' := by
 unfold appendV at hx
 split at hx
 case h_2 => cases hx
 rename_i size base n c k hs hk
 split at hx
 case h_1 => cases hx
 rename_i new hnew
 rw [fN_eq] at hx
 unfold appendN at hx
 cases hchk : (roomFor P e (Nat.add n k) && zeroFit P e size) with
 | false => rw [hchk] at hx; cases hx
 | true =>
 rw [hchk] at hx
 simp only [Bool.and_eq_true] at hchk
 obtain ⟨ti, z, hti, _, hzv, hzs⟩ := zeroFit_some hchk.2
 obtain ⟨hsm, hby⟩ : (5 * (n + k) + 3072) * ti.bytes ≤ 1125899906842624 ∧ n + k ≤ 4611686018427387904 := roomFor_some hchk.1 hti
 simp only [cond] at hx
 have hl : ∀ w, (Builtin.lenOf b').run P w = .ok k w := fun w => lenOfV_sound hb hk w
 have hr1 := h.drawn (w.drawn + 1)
 obtain ⟨new', hv, hrun⟩ := cellsFrom_sound (P := P) h hb hnew
 obtain ⟨new2, hv2, hrun2⟩ := cellsFrom_sound (P := P) hr1 hb hnew
 have wrap : ∀ {w' : World} {v' : Value}, (Builtin.append_ ts ty ⟨[a', b']⟩).run P w = .ok v' w' → (do pure (Next.value (← Builtin.append_ ts ty ⟨[a', b']⟩)) : Sem Next).run P w = .ok (.value v') w' := by
  intro w' v' hh
  simp only [Sem.run_bind, hh, Result.andThen_ok, Sem.run_pure]
 have fresh : ∀ {q' : Option Addr} {c' : Nat} {old old' : List Value}, a' = .slice q' n c' → ¬ n + k ≤ c' → (Builtin.firstCells size n (.slice q' n c')).run P { w with drawn := w.drawn + 1 } = .ok ⟨old'⟩ { w with drawn := w.drawn + 1 } →
   VRs E old old' → old.length = n * size → newLs s (old ++ new) (n + k) size = .ok x s' → ActR N P E s w (do pure (.value (← Builtin.append_ ts ty ⟨[a', b']⟩))) x s' := by
  intro q' c' old old' ea hle ho hold holen hnl
  subst ea
  obtain ⟨k1, k2, k3, k4⟩ := newLs_ok hnl
  obtain ⟨cp, hcp, hrn⟩ := run_append_new (ty := ty) h0 hu h1 hd hz hs hl hrun2 ho hle hsm hti hby hzv
  subst k3 k4
  have hlen : old'.length + new2.length = (n + k) * size := by rw [← hold.length, ← hv2.length, holen, cellsFrom_len hk hnew, Nat.add_mul]
  have hsz : ((⟨old'⟩ : Array Value) ++ ⟨new2⟩ ++ Builtin.zeroCells z.cells (cp - (n + k))).size = cp * size := by
   simp only [Array.size_append, zeroCells_size, hzs]
   show old'.length + new2.length + _ = _
   rw [hlen, ← Nat.add_mul]
   congr 1
   omega
  refine .val _ _ _ _ _ (stp_newrow h k1 (hold.append hv2) (append_cells (r := Builtin.zeroCells z.cells (cp - (n + k)))) (w' := { w with drawn := w.drawn + 1, heap := w.heap.push (.cells ((⟨old'⟩ : Array Value) ++ ⟨new2⟩ ++ Builtin.zeroCells z.cells (cp - (n + k))) e) }) rfl rfl rfl rfl) ?_ (wrap hrn)
  rw [h.nx]
  exact vr_slM E _ _ (n + k) cp size k2 hcp (by rw [hsz]; exact Nat.le_refl _)
 cases base with
 | none =>
  obtain rfl := plain_eq 1 _ _ rfl ha
  simp only at hx
  cases hnc : (Nat.beq n 0 && Nat.beq c 0) with
  | false => rw [hnc] at hx; cases hx
  | true =>
   rw [hnc] at hx
   simp only [Bool.and_eq_true] at hnc
   have hn0 := Nat.eq_of_beq_eq_true hnc.1
   have hc0 := Nat.eq_of_beq_eq_true hnc.2
   subst hn0 hc0
   simp only at hx
   cases hnd : Nat.beq (Nat.add 0 k) 0 with
   | true =>
    rw [hnd] at hx
    cases hx
    have hk0 : 0 + k = 0 := Nat.eq_of_beq_eq_true hnd
    have hk1 : k = 0 := by omega
    subst hk1
    exact .val _ _ E s w (.refl h) (.snil 0 0) (wrap (run_append_in h0 hu h1 hd hz hs hl hrun (Nat.le_refl _) rfl))
   | false =>
    rw [hnd] at hx
    have hk0 : ¬ (0 + k ≤ 0) := fun hh => by
     have : Nat.add 0 k = 0 := by show 0 + k = 0; omega
     rw [this] at hnd; cases hnd
    exact fresh (old := []) (old' := []) rfl hk0 rfl .nil (by simp) (by rw [List.nil_append]; exact hx)
 | some ad =>
  obtain ⟨bk, off, sp⟩ := ad
  cases sp with
  | some z => cases hx
  | none =>
  have hx' : appendB s size bk off n c (n + k) new = .ok x s' := hx
  obtain ⟨hbk, c', ea, hcc, hcase⟩ := ha.sl_inv
  subst ea
  unfold appendB at hx'
  cases hle : Nat.ble (n + k) (capOf c) with
  | true =>
   rw [hle] at hx'
   have hle' : n + k ≤ c' := Nat.le_trans (Nat.le_of_ble_eq_true hle) hcc
   simp only [cond] at hx'
   split at hx'
   ·rename_i s1 hw1
    cases hx'
    obtain ⟨w', k1, k2⟩ := stp_write P h hw1 hv
    refine .val _ _ E s' w' k2 ?_ (wrap (run_append_in h0 hu h1 hd hz hs hl hrun hle' (w' := w') ?_))
    ·rcases hcase with ⟨hsu, hcs, _⟩ | ⟨hsu, hsz⟩
     ·rw [hcs]; exact .slS bk off (n + k) c' hbk
     ·exact .slM bk off (n + k) c c' hbk hsu hcc hsz
    ·simp only [add_eq, Nat.add_assoc]
     exact k1
   ·cases hx'
  | false =>
   rw [hle] at hx'
   simp only [cond] at hx'
   have hnle : ¬ n + k ≤ capOf c := fun hh => by rw [Nat.ble_eq_true_of_le hh] at hle; cases hle
   cases hrd : readAt s bk off (Nat.mul n size) with
   | none => rw [hrd] at hx'; cases hx'
   | some old =>
   rw [hrd] at hx'
   simp only at hx'
   obtain ⟨old', k1, k2, k3⟩ := readAt_run (P := P) hr1.obs hrd
   have holen : old.length = n * size := readAt_len hrd
   rw [appO_eq] at hx'
   rcases hcase with ⟨hsu, hcs, hceq⟩ | ⟨hsu, hsz⟩
   ·rw [hsu] at hx'
    exact fresh (old := old) (old' := old') rfl (by rw [← hceq]; exact hnle) k3 k1 holen hx'
   ·rw [hsu] at hx'
    simp only at hx'
    cases hch : (Nat.beq off 0 && Nat.beq (esOf c) size && someOne new) with
    | false => rw [hch] at hx'; cases hx'
    | true =>
    rw [hch] at hx'
    simp only at hx'
    obtain ⟨hc1, hc2, hc3⟩ := and3 hch
    have hoff := Nat.eq_of_beq_eq_true hc1
    have hes := Nat.eq_of_beq_eq_true hc2
    subst hoff
    obtain ⟨hp, nx, gr⟩ := s
    simp only at hx'
    split at hx'
    case h_2 => cases hx'
    rename_i cs g hrow
    have hlt := h.lt
    have hfresh : (St.mk hp nx gr).hp.get (St.mk hp nx gr).nx = none := by
     cases hq : (St.mk hp nx gr).hp.get (St.mk hp nx gr).nx with
     | none => rfl
     | some o =>
      have := (h.ob _ o hq).1
      rw [h.nx] at this
      omega
    have hold : old = cs.take (n * size) := by
     have : readOb 0 (Nat.mul n size) (hp.get bk) = some old := hrd
     rw [hrow] at this
     exact (takeO_some.1 (show takeO (n * size) (dropL 0 cs) = some old from this)).2
    obtain ⟨ms, G, g1, g2, g3, g4, g5⟩ := extend_grew hlt (hlt bk _ hrow) hfresh (fun e => by
     have e' : bk = nx := e
     rw [e'] at hrow
     rw [show hp.get nx = none from hfresh] at hrow; cases hrow) hx'
    subst g2
    rw [hold] at g1
    have hone : ∀ v ∈ new, one v = true := by
     unfold someOne at hc3
     split at hc3
     ·cases hc3
     ·obtain ⟨q1, q2⟩ := Bool.and_eq_true_iff.1 hc3
      intro v hv
      rcases List.mem_cons.1 hv with rfl | hv
      ·exact q1
      ·exact List.all_eq_true.1 q2 v hv
    have hone' : ∀ v ∈ new', one v = true := by
     intro v hv'
     obtain ⟨i, hi⟩ := List.getElem?_of_mem hv'
     have hil : i < new.length := by rw [hv.length]; exact getElem?_lt hi
     obtain ⟨u', q1, q2⟩ := hv.get (List.getElem?_eq_getElem hil)
     rw [hi] at q1; cases q1
     exact q2.one (hone _ (List.getElem_mem hil))
    have hnl : new'.length = k * size := by rw [← hv.length]; exact cellsFrom_len hk hnew
    obtain ⟨hbn, hobb⟩ := h.ob bk _ hrow
    obtain ⟨ca, ct, fr, q1, q2, q3, q4⟩ := hobb
    have hιb : E.ι bk < w.heap.size := (h.ob bk _ hrow).2.lt (fun e => by cases e)
    have hn1 : (St.mk hp nx gr).nx = E.nx := h.nx
    by_cases hin : n + k ≤ c'
    · -- in place
     have hbd : E.sh bk + n * size + new'.length ≤ ca.size := by
      rw [hnl, q2]
      rw [hes] at hsz
      have : (n + k) * size ≤ c' * size := Nat.mul_le_mul_right _ hin
      rw [Nat.add_mul] at this
      omega
     have hst := run_storeCells_lay P (E.ι bk) ct fr (E.sh bk + n * size) new' 0 ca w q1 (by omega) q3 hone'
     simp only [Nat.add_zero] at hst
     have hne : new' ≠ [] := by
      intro e0
      subst e0
      cases hv
      cases hc3
     have hst' : (storeCells ⟨E.ι bk, E.sh bk + n * size, none⟩ new').run P w = .ok () (World.row w (E.ι bk) (.cells (lay ca (E.sh bk + n * size) new') ct fr)) := by
      rw [hst]
      cases new' with
      | nil => exact absurd rfl hne
      | cons => rfl
     have hh : ∀ B, (World.row w (E.ι bk) (.cells (lay ca (E.sh bk + n * size) new') ct fr)).heap[B]? = if B = E.ι bk then some (.cells (lay ca (E.sh bk + n * size) new') ct fr) else w.heap[B]? := fun B => row_heap _ _ _ _ hιb
     have hcells : CellsR (E.push (E.ι bk) (E.sh bk) (E.sz bk)) (E.sh bk) (old ++ new) (lay ca (E.sh bk + n * size) new') := by
      intro i v hi
      rw [lay_get _ _ _ _ hbd]
      rw [List.getElem?_append, holen] at hi
      split at hi
      ·rename_i hlt2
       rw [if_neg (by omega)]
       rw [hold, List.getElem?_take, if_pos hlt2] at hi
       obtain ⟨v', z1, z2⟩ := q4 i v hi
       exact ⟨v', z1, z2.ext (En.push_ext _ _ _ _)⟩
      ·rename_i hge
       obtain ⟨v', z1, z2⟩ := hv.get hi
       have := getElem?_lt z1
       exact ⟨v', by rw [if_pos (by omega), show E.sh bk + i - (E.sh bk + n * size) = i - n * size by omega]; exact z1, z2.ext (En.push_ext _ _ _ _)⟩
     have S := stp_grew h hrow G g1 g4 g5 (E.ι bk) (E.sh bk) (E.sz bk) (.inl ⟨rfl, rfl⟩) (w' := World.row w (E.ι bk) (.cells (lay ca (E.sh bk + n * size) new') ct fr)) (fun B _ hne => by rw [hh, if_neg hne])
      ⟨ca, ct, fr, _, q1, by rw [hh, if_pos rfl], lay_size _ _ _, fun i hi => by rw [lay_get _ _ _ _ hbd, if_neg (by have e9 : Nat.mul n size = n * size := rfl; omega)]⟩ (by simp [World.row]) rfl rfl rfl
      ⟨_, ct, fr, by rw [En.push_ι, hh, if_pos rfl], by rw [lay_size, En.push_sz]; exact q2, by rw [lay_size]; exact q3, by rw [En.push_sh]; exact hcells⟩
     refine .val _ _ _ _ _ S ?_ (wrap (run_append_in h0 hu h1 hd hz hs hl hrun hin ?_))
     ·rw [hn1]
      have := VR.slM (E := E.push (E.ι bk) (E.sh bk) (E.sz bk)) E.nx 0 (n + k) (least (n + k) size) c' (Nat.lt_succ_self _) (least_sure _ _) (by rw [capOf_least _ g3]; exact hin) (by rw [esOf_least _ g3, En.push_sh, En.push_sz]; rw [hes] at hsz; exact hsz)
      rw [En.push_ι, En.push_sh] at this
      exact this
     ·simp only [add_eq, Nat.add_zero]
      exact hst'
    · -- a new list
     obtain ⟨cp, hcp, hrn⟩ := run_append_new (ty := ty) (n := n) (c := c') (base := some ⟨E.ι bk, E.sh bk + 0, none⟩) h0 hu h1 hd hz hs hl hrun2 k3 hin hsm hti hby hzv
     have hnl2 : new2.length = k * size := by rw [← hv2.length]; exact cellsFrom_len hk hnew
     have hsz2 : ((⟨old'⟩ : Array Value) ++ ⟨new2⟩ ++ Builtin.zeroCells z.cells (cp - (n + k))).size = cp * size := by
      simp only [Array.size_append, zeroCells_size, hzs]
      show old'.length + new2.length + _ = _
      rw [k2, hnl2]
      show n * size + k * size + _ = _
      rw [← Nat.add_mul, ← Nat.add_mul]
      congr 1
      omega
     have hw' : ({ w with drawn := w.drawn + 1, heap := w.heap.push (.cells ((⟨old'⟩ : Array Value) ++ ⟨new2⟩ ++ Builtin.zeroCells z.cells (cp - (n + k))) e) } : World).heap = w.heap.push (.cells ((⟨old'⟩ : Array Value) ++ ⟨new2⟩ ++ Builtin.zeroCells z.cells (cp - (n + k))) e) := rfl
     have hold2 : ∀ B, B < w.heap.size → (w.heap.push (.cells ((⟨old'⟩ : Array Value) ++ ⟨new2⟩ ++ Builtin.zeroCells z.cells (cp - (n + k))) e))[B]? = w.heap[B]? := fun B hB => by rw [Array.getElem?_push, if_neg (by omega)]
     have S := stp_grew h hrow G g1 g4 g5 w.heap.size 0 (cp * size) (.inr rfl) (w' := { w with drawn := w.drawn + 1, heap := w.heap.push (.cells ((⟨old'⟩ : Array Value) ++ ⟨new2⟩ ++ Builtin.zeroCells z.cells (cp - (n + k))) e) }) (fun B hB _ => by rw [hw']; exact hold2 B hB)
      ⟨ca, ct, fr, ca, q1, by rw [hw', hold2 _ hιb]; exact q1, rfl, fun _ _ => rfl⟩ (by rw [hw']; simp) rfl rfl rfl
      ⟨(⟨old'⟩ : Array Value) ++ ⟨new2⟩ ++ Builtin.zeroCells z.cells (cp - (n + k)), e, (0, 0), by rw [En.push_ι, hw']; simp, by rw [hsz2, En.push_sz], thaw0 _, by
       rw [En.push_sh]
       intro i v hi
       obtain ⟨v', z1, z2⟩ := (k1.append hv2).get hi
       exact ⟨v', by rw [Nat.zero_add]; exact append_cells i v' z1, z2.ext (En.push_ext _ _ _ _)⟩⟩
     refine .val _ _ _ _ _ S ?_ (wrap hrn)
     rw [hn1]
     exact vr_slM E _ _ (n + k) cp size g3 hcp (Nat.le_refl _)
theorem rep_one (v : Value) : ∀ m : Nat, (List.replicate m [v]).flatten = List.replicate m v
 | 0 => rfl
 | m + 1 => by rw [List.replicate_succ, List.flatten_cons, rep_one v m]; rfl
theorem act_appendZ {N : Nat} {s s' : St} {w : World} (h : Rel N E s w) {ts : Array TypeId} {ty t u e : TypeId} {ik : IntKind} {a a' b b' : Value} {x : Nx} (h0 : ts[0]? = some t) (hu : P.underlying t = some (.slice e)) (h1 : ts[1]? = some u) (hd : P.underlying u = some (.int ik))
  (ha : VR E a a') (hb : VR E b b') (hx : appendZ P s e a b = .ok x s') : ActR N P E s w (do pure (.value (← Builtin.append_ ts ty ⟨[a', b']⟩))) x s' := by
 unfold appendZ at hx
 split at hx
 case h_2 => cases hx
 rename_i n c m size ti hs hti
 split at hx
 case h_2 => cases hx
 rename_i z hzv
 split at hx
 case h_2 => cases hx
 rename_i v hcs
 cases hch : (Nat.beq n 0 && Nat.beq c 0 && Nat.beq size 1 && Nat.blt 0 m && roomFor P e m && Nat.ble ti.bytes 8192 && plain 1 v) with
 | false => rw [hch] at hx; cases hx
 | true =>
 rw [hch] at hx
 replace hx : newLs s (repO [v] m) m 1 = .ok x s' := hx
 simp only [Bool.and_eq_true_iff] at hch
 obtain ⟨⟨⟨⟨⟨⟨c1, c2⟩, c3⟩, c4⟩, c5⟩, c6⟩, c7⟩ := hch
 have e1 := Nat.eq_of_beq_eq_true c1
 have e2 := Nat.eq_of_beq_eq_true c2
 have e3 := Nat.eq_of_beq_eq_true c3
 have e4 : 0 < m := Nat.le_of_ble_eq_true c4
 obtain ⟨e5, e5m⟩ := roomFor_some c5 hti
 have e6 := Nat.le_of_ble_eq_true c6
 subst e1 e2 e3
 obtain rfl := plain_eq 1 _ _ rfl ha
 obtain rfl := hb.int_inv
 have hzc : z.cells = #[v] := by apply Array.ext'; exact hcs
 obtain ⟨k1, k2, k3, k4⟩ := newLs_ok hx
 subst k3 k4
 rw [repO_eq]
 rw [rep_one]
 have hwr : IntKind.i64.wrap (Int.ofNat m) = (m : Int) := by
  show IntKind.i64.wrap (m : Int) = (m : Int)
  rw [IntKind.wrap_i64]; omega
 have hmx : ¬ (((0 + m : Nat) : Int) > IntKind.i64.max) := by
  intro h
  have : IntKind.i64.max = 9223372036854775807 := by decide
  rw [this] at h
  omega
 have hnx : ¬ (Builtin.nextslicecap (0 + m) 0 * ti.bytes > 2 ^ 48) := by
  have h1 := nextcap_le (show 0 < 0 + m by omega)
  have h2 : (4 * Builtin.nextslicecap (0 + m) 0) * ti.bytes ≤ (5 * m + 3072) * ti.bytes := Nat.mul_le_mul_right _ (by omega)
  rw [Nat.mul_assoc] at h2
  omega
 have hbt : ¬ ((m : Int) * (ti.bytes : Int) > 2 ^ 48) := by
  have h2' : (4 * m) * ti.bytes ≤ 1125899906842624 := Nat.le_trans (Nat.mul_le_mul_right _ (by omega)) e5
  rw [Nat.mul_assoc] at h2'
  have h2 : m * ti.bytes ≤ 281474976710656 := by omega
  have h3 : ((m * ti.bytes : Nat) : Int) ≤ ((281474976710656 : Nat) : Int) := Int.ofNat_le.2 h2
  rw [Int.natCast_mul] at h3
  omega
 have hty : ∀ w : World, (typeInfo e).run P w = .ok ti w := fun w => by simp [typeInfo, hti]
 have hzr : ∀ w : World, (zeroValue e).run P w = .ok z w := fun w => by simp [zeroValue, typeInfo, hti, hzv]
 have hzcs : ∀ k, Builtin.zeroCells #[v] k = ⟨List.replicate k v⟩ := by
  intro k
  apply Array.ext'
  simp only [Builtin.zeroCells]
  apply List.ext_getElem?
  intro i
  simp only [Array.toList_map, Array.toList_range, List.getElem?_map]
  by_cases hi : i < k
  ·rw [List.getElem?_range (by simpa using hi), List.getElem?_replicate, if_pos hi]
   simp [Nat.mod_one]
  ·rw [List.getElem?_eq_none (by simpa using hi), List.getElem?_replicate, if_neg hi]
   rfl
 obtain ⟨cp, hcp, hrn⟩ : ∃ cp, m ≤ cp ∧ (Builtin.append_ ts ty ⟨[.slice none 0 0, .int .i64 (.ofNat m)]⟩).run P w = .ok (.slice (some ⟨w.heap.size, 0, none⟩) m cp)
   { w with drawn := w.drawn + 1, heap := w.heap.push (.cells (⟨[]⟩ ++ (⟨List.replicate m v⟩ : Array Value) ++ ⟨List.replicate (cp - m) v⟩) e) } := by
  have hm0 : ¬ m * 1 = 0 := by omega
  have hm1 : ¬ 0 + m ≤ 0 := by omega
  have hm2 : ¬ (m : Int) < 0 := by omega
  refine ⟨(Question.appendCap (0 + m) 0 e).cut (w.tape w.drawn (.appendCap (0 + m) 0 e)), Nat.le_trans (by omega) (Nat.le_add_right (0 + m) _), ?_⟩
  simp only [Builtin.append_, Sem.run_bind, Sem.run_pure, Result.andThen_ok, h0, h1, List.getElem?_toArray, List.getElem?_cons_zero, List.getElem?_cons_succ, run_underlying hu, run_underlying hd, run_sizeOf w hs, if_true, asInt, asIntOf, hwr, hty, hbt, if_false, hm2, Int.toNat_natCast, hm1, hmx, false_and, hnx, run_choose, Question.forced, run_askRoom, Builtin.firstCells, Bool.not_true, Bool.false_eq_true, hm0, hzr, hzc, hzcs, newRow, run_newObj]
  rw [Nat.zero_add]
 have hsz : ((⟨[]⟩ : Array Value) ++ (⟨List.replicate m v⟩ : Array Value) ++ (⟨List.replicate (cp - m) v⟩ : Array Value)).size = cp := by
  simp only [Array.size_append, List.size_toArray, List.length_replicate, List.length_nil]
  omega
 have hvr : VRs E (List.replicate m v) (List.replicate m v) := VRs.self (p := plain 1) (plain_VR E 1) _ (by rw [List.all_replicate]; simp [c7])
 refine .val _ (.slice (some ⟨w.heap.size, 0, none⟩) m cp) _ _ _ (stp_newrow h k1 hvr (fun i u hu => append_cells (old' := []) (r := ⟨List.replicate (cp - m) v⟩) i u hu) (w' := { w with drawn := w.drawn + 1, heap := w.heap.push (.cells (⟨[]⟩ ++ (⟨List.replicate m v⟩ : Array Value) ++ ⟨List.replicate (cp - m) v⟩) e) }) rfl rfl rfl rfl) ?_ (by simp only [Sem.run_bind, hrn, Result.andThen_ok, Sem.run_pure])
 rw [h.nx]
 exact vr_slM E _ _ m _ 1 k2 hcp (by rw [hsz]; omega)
end
end Go.Ev
