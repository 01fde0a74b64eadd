import Derived.Test.YtlhllbggnpcoaaaGreatDoorRBh
import Derived.Test.YtlhllbggnpcoaaaGreatDoorPpr
/-
  cairnref04.pairs.
-/
namespace Go.Proofs.YtlhllbggnpcoaaaGreatDoor
open Go.RowKit Go.Sort Go.Maps

theorem builtP (a b : Option Addr) (n c m d : Nat) : Tryz.prog.built 94 [(0, .slice a n c), (1, .slice b m d)] = some #[.slice a n c, .slice b m d] := by kernel_rfl
theorem fillP (a b : Option Addr) (n c m d : Nat) : Instr.fill (fun i => some (i * 2, 2)) ((Array.range (1 * 2)).map ((Value.agg #[nilS, nilS]).cells[· % (Value.agg #[nilS, nilS]).cells.size]!)) [(0, .agg #[.slice a n c, .slice b m d])] = some #[.slice a n c, .slice b m d] := by kernel_rfl
section
variable {ops : Array Oper} {S : World → Prop} {o : Oper} {a : Act}
theorem r_buildP {Q : Exit → Act → World → Prop} {w : World} {K : Act → World → Prop} {E : Prop} (y : Operand) (ho : o.op = .buildSlice 35 1 #[(0, y)]) (hw : Region.wanted o (yielded ops a.tmps) = true) (p p' : Option Addr) (n c n' c' : Nat) (hy : a.eval y = .agg #[.slice p n c, .slice p' n' c'])
    (h : K (a.put o.dst (.slice (some ⟨w.heap.size, 0, none⟩) 1 1)) (w.alloc (.cells #[.slice p n c, .slice p' n' c'] 94))) :
    if Region.wanted o (yielded ops a.tmps) = true then Oper.wp Tryz.prog o a w K Q else E := by
  rw [if_pos hw]
  obtain ⟨i0, hi0, hz0, hz1, hz2⟩ := info_parts infoP
  refine wp_buildSlice 35 94 1 _ ho _ i0 _ Tryz.underlying35 hi0 hz0 (by rw [hz1]; decide) (by rw [hz1]; decide) ?_ h
  rw [hz1]
  simp only [List.map_toArray, List.map_cons, List.map_nil, hy]
  exact fillP p p' n c n' c'
end

set_option maxRecDepth 100000 in
set_option maxHeartbeats 3200000 in
theorem rpairs_any (w : World) (F : Nat → Prop) (v : Value) (Q : List FG) (κ : List Nat → List Nat) (h : NL w F v Q) (hr : Ris (Q.map FG.s)) (hk : ∀ q ∈ Q, q.k = κ q.s) (hn : Q.length ≤ 274877906944) (hs : ∀ q ∈ Q, q.s.length ≤ 140737488351232) :
    Calls Tryz.prog 68 #[v] w fun e w' => ∃ v' P, e = .returned v' ∧ PAcc w w' v' P ∧ P.map PR.ab = pairsL κ (Q.map FG.s) := by
  obtain ⟨av, cv, ev⟩ : ∃ av cv, v = .slice av Q.length cv := by
    rcases h.own.2 with ⟨rfl, h0⟩ | ⟨g, cap, cur, rfl, _⟩
    · exact ⟨none, 0, by rw [h0]⟩
    · exact ⟨_, _, rfl⟩
  subst ev
  have HN : Hid (NL w F (.slice av Q.length cv) Q ∧ (∀ q ∈ Q, q.k = κ q.s) ∧ (∀ q ∈ Q, q.s.length ≤ 140737488351232)) := ⟨h, hk, hs⟩
  have HR : Hid (Ris (Q.map FG.s)) := hr
  have HLL : Hid ((Q.map FG.s).length = Q.length) := by simp [Hid]
  have HIX : Hid (∀ (i : Nat) (q : FG), Q[i]? = some q → (Q.map FG.s)[i]? = some q.s) := fun i q hi => by rw [List.getElem?_map, hi]; rfl
  clear h hr hk hs
  go_enter Tryz.func68, Tryz.ntmps68
  go_wp2_with fail
  go_loopg [3, 4] Q.length (fun gg v ii wr => ∃ (i : Nat) (P : List PR), i ≤ Q.length ∧ gg = Q.length - i ∧ ii = .int .i64 i ∧ PAcc w wr v P ∧ Part κ (Q.map FG.s) i 0 (P.map PR.ab))
  case atStart => exact ⟨0, [], Nat.zero_le _, rfl, rfl, PAcc.nil (Below.refl _ _), Part.start⟩
  case round =>
    obtain ⟨i, P, hi, rfl, rfl, pA, hP⟩ := hrel
    by_cases hiq : i < Q.length
    · obtain ⟨g, cap, ev, _, _, _⟩ := HN.out.1.at_ (by omega)
      injection ev with ev1 _ ev3
      subst ev1
      subst ev3
      have i1 : (i : Int) < (Q.length : Int) := by omega
      have HIQ : Hid (i < Q.length) := hiq
      have HP : Hid (Part κ (Q.map FG.s) i 0 (P.map PR.ab)) := hP
      have HGL : Hid (g < w.heap.size) := by obtain ⟨cur, hc⟩ := HN.out.1.block; exact (Array.getElem?_eq_some_iff.1 hc).1
      have HRG : Hid (∀ v, Below w.heap.size w v → ∀ (m : Nat) (q : FG), Q[m]? = some q → v.rangeAt g (m * 33 + 1) (bv q.k)) := fun v hv m q hm j u hu => (hv.cell (p := ⟨g, m * 33 + 1 + j, none⟩) HGL.out).trans ((HN.out.1.ix m q hm).2.1 j u hu)
      obtain ⟨qi, eqi⟩ : ∃ qi, Q[i]? = some qi := ⟨_, List.getElem?_eq_getElem hiq⟩
      have HQI : Hid (Q[i]? = some qi) := eqi
      have HKI : Hid (IsH qi.k) := HN.out.1.key _ (HN.out.1.ix i qi eqi).2.2.1
      obtain ⟨ki, eki⟩ : ∃ ki, ki = qi.k := ⟨_, rfl⟩
      have HE : Hid (ki = qi.k ∧ ki = κ qi.s) := ⟨eki, eki.trans (HN.out.2.1 _ (HN.out.1.ix i qi eqi).2.2.1)⟩
      rw [← eki] at HKI
      clear eki eqi hP
      go_wp2_with fail
      go_loopg [5, 6] i (fun gg bb jj wq => ∃ j : Nat, j ≤ i ∧ gg = i - j ∧ jj = .int .i64 j ∧ bb = .bool (decide (∀ m, m < j → ∀ c, (Q.map FG.s)[m]? = some c → κ c ≠ κ qi.s)) ∧ PAcc w wq u3 P)
      case atStart => exact ⟨0, Nat.zero_le _, rfl, rfl, by rw [decide_eq_true (fun m hm => by omega)], pA⟩
      case round =>
        obtain ⟨j, hj, rfl, rfl, rfl, qA⟩ := hrel
        have HA : Hid (PAcc w wr u3 P) := qA
        clear qA
        by_cases hji : j < i
        · have hjq : j < Q.length := by omega
          have i2 : (j : Int) < (i : Int) := by omega
          by_cases hl : ∀ m, m < j → ∀ c, (Q.map FG.s)[m]? = some c → κ c ≠ κ qi.s
          · have HL : Hid (∀ m, m < j → ∀ c, (Q.map FG.s)[m]? = some c → κ c ≠ κ qi.s) := hl
            rw [decide_eq_true hl]
            clear hl
            obtain ⟨qj, eqj⟩ : ∃ qj, Q[j]? = some qj := ⟨_, List.getElem?_eq_getElem hjq⟩
            have HQJ : Hid (Q[j]? = some qj) := eqj
            obtain ⟨kj, ekj⟩ : ∃ kj, kj = qj.k := ⟨_, rfl⟩
            have HJ : Hid (kj = qj.k ∧ kj = κ qj.s ∧ IsH kj) := ⟨ekj, ekj.trans (HN.out.2.1 _ (HN.out.1.ix j qj eqj).2.2.1), by rw [ekj]; exact HN.out.1.key _ (HN.out.1.ix j qj eqj).2.2.1⟩
            have HRR : Hid (∀ v, Below wr.heap.size wr v → v.rangeAt g (j * 33 + 1) (bv kj) ∧ v.rangeAt g (i * 33 + 1) (bv ki)) := fun v hv => by
              have hb := HA.out.below.trans (hv.mono HA.out.below.size)
              have h1 := HRG.out v hb j qj HQJ.out
              have h2 := HRG.out v hb i qi HQI.out
              rw [← HJ.out.1] at h1
              rw [← HE.out.1] at h2
              exact ⟨h1, h2⟩
            clear ekj eqj
            by_cases q : kj = ki
            · skip
              have HQ : Hid (kj = ki) := q
              clear q
              have eqk : ∀ w0 : World, (Op.equalIn 10000 31 (.agg (hA kj)) (.agg (hA ki))).run Tryz.prog w0 = .ok true w0 := fun w0 => by rw [eqH_any w0 _ _ HJ.out.2.2 HKI.out, decide_eq_true HQ.out]
              go_wp2_with fail
              have bd : Below wr.heap.size wr wr.drew := (Turn.drew (F := fun _ => False) wr).below (fun _ f => f.elim) (Nat.le_refl _)
              have HBD : Hid (Below wr.heap.size wr wr.drew) := bd
              have s0 : (fun v => v.rangeAt g (j * 33 + 1) (bv kj) ∧ v.rangeAt g (i * 33 + 1) (bv ki)) wr.drew := HRR.out _ bd
              refine wp_region_held_drew (S := fun v => v.rangeAt g (j * 33 + 1) (bv kj) ∧ v.rangeAt g (i * 33 + 1) (bv ki)) (by kernel_rfl) s0 ?_
              intro hS
              clear s0 bd
              change wpAnyH _ _ _ _ _ 15 _ _ _
              generalize wr.drew = wd at hS HBD ⊢
              refine wpAnyH_take (i := 0) (v := (.bool true)) (by simp only [List.getElem?_toArray, List.getElem?_cons_zero]; rfl) (by kernel_rfl) (by kernel_rfl) (by kernel_rfl) (by exact fun _ _ _ h => h) (y_move (by kernel_rfl) _ rfl _ rfl) hS ?_
              try simp only [Act.put, List.setIfInBounds_toArray, List.set_cons_zero, List.set_cons_succ]
              refine wpAnyH_take (i := 1) (v := (.bool true)) (by simp only [List.getElem?_toArray, List.getElem?_cons_zero, List.getElem?_cons_succ]; rfl) (by kernel_rfl) (by kernel_rfl) (by kernel_rfl) (by exact fun _ _ _ h => h) (y_move (by kernel_rfl) _ rfl _ rfl) hS ?_
              try simp only [Act.put, List.setIfInBounds_toArray, List.set_cons_zero, List.set_cons_succ]
              refine wpAnyH_take (i := 2) (v := (.slice (some ⟨g, 0, none⟩) Q.length cv)) (by simp only [List.getElem?_toArray, List.getElem?_cons_zero, List.getElem?_cons_succ]; rfl) (by kernel_rfl) (by kernel_rfl) (by kernel_rfl) (by exact fun _ _ _ h => h) (y_move (by kernel_rfl) _ rfl _ rfl) hS ?_
              try simp only [Act.put, List.setIfInBounds_toArray, List.set_cons_zero, List.set_cons_succ]
              refine wpAnyH_take (i := 3) (v := (.int .i64 (j : Nat))) (by simp only [List.getElem?_toArray, List.getElem?_cons_zero, List.getElem?_cons_succ]; rfl) (by kernel_rfl) (by kernel_rfl) (by kernel_rfl) (by exact fun _ _ _ h => h) (y_move (by kernel_rfl) _ rfl _ rfl) hS ?_
              try simp only [Act.put, List.setIfInBounds_toArray, List.set_cons_zero, List.set_cons_succ]
              refine wpAnyH_take (i := 4) (v := (.pointer (some ⟨g, j * 33, none⟩))) (by simp only [List.getElem?_toArray, List.getElem?_cons_zero, List.getElem?_cons_succ]; rfl) (by kernel_rfl) (by kernel_rfl) (by kernel_rfl) (by exact fun _ _ _ h => h) (y_indexN (by kernel_rfl) _ _ rfl g Q.length cv j rfl rfl hjq) hS ?_
              try simp only [Act.put, List.setIfInBounds_toArray, List.set_cons_zero, List.set_cons_succ]
              refine wpAnyH_take (i := 5) (v := (.pointer (some ⟨g, j * 33 + 1, none⟩))) (by simp only [List.getElem?_toArray, List.getElem?_cons_zero, List.getElem?_cons_succ]; rfl) (by kernel_rfl) (by kernel_rfl) (by kernel_rfl) (by exact fun _ _ _ h => h) (y_fieldN (by kernel_rfl) _ 1 rfl g (j * 33) rfl (by decide)) hS ?_
              try simp only [Act.put, List.setIfInBounds_toArray, List.set_cons_zero, List.set_cons_succ]
              refine wpAnyH_take (i := 6) (v := (.agg (hA kj))) (by simp only [List.getElem?_toArray, List.getElem?_cons_zero, List.getElem?_cons_succ]; rfl) (by kernel_rfl) (by kernel_rfl) (by kernel_rfl) (by exact fun _ _ _ h => h) (yieldsIf_load_mid (by kernel_rfl) _ _ rfl g (j * 33 + 1) rfl _ _ (fun v hs => hs.1) Tryz.underlying31 rfl (hL_len HJ.out.2.2)) hS ?_
              try simp only [Act.put, List.setIfInBounds_toArray, List.set_cons_zero, List.set_cons_succ]
              refine wpAnyH_take (i := 7) (v := (.slice (some ⟨g, 0, none⟩) Q.length cv)) (by simp only [List.getElem?_toArray, List.getElem?_cons_zero, List.getElem?_cons_succ]; rfl) (by kernel_rfl) (by kernel_rfl) (by kernel_rfl) (by exact fun _ _ _ h => h) (y_move (by kernel_rfl) _ rfl _ rfl) hS ?_
              try simp only [Act.put, List.setIfInBounds_toArray, List.set_cons_zero, List.set_cons_succ]
              refine wpAnyH_take (i := 8) (v := (.int .i64 (i : Nat))) (by simp only [List.getElem?_toArray, List.getElem?_cons_zero, List.getElem?_cons_succ]; rfl) (by kernel_rfl) (by kernel_rfl) (by kernel_rfl) (by exact fun _ _ _ h => h) (y_move (by kernel_rfl) _ rfl _ rfl) hS ?_
              try simp only [Act.put, List.setIfInBounds_toArray, List.set_cons_zero, List.set_cons_succ]
              refine wpAnyH_take (i := 9) (v := (.pointer (some ⟨g, i * 33, none⟩))) (by simp only [List.getElem?_toArray, List.getElem?_cons_zero, List.getElem?_cons_succ]; rfl) (by kernel_rfl) (by kernel_rfl) (by kernel_rfl) (by exact fun _ _ _ h => h) (y_indexN (by kernel_rfl) _ _ rfl g Q.length cv i rfl rfl HIQ.out) hS ?_
              try simp only [Act.put, List.setIfInBounds_toArray, List.set_cons_zero, List.set_cons_succ]
              refine wpAnyH_take (i := 10) (v := (.pointer (some ⟨g, i * 33 + 1, none⟩))) (by simp only [List.getElem?_toArray, List.getElem?_cons_zero, List.getElem?_cons_succ]; rfl) (by kernel_rfl) (by kernel_rfl) (by kernel_rfl) (by exact fun _ _ _ h => h) (y_fieldN (by kernel_rfl) _ 1 rfl g (i * 33) rfl (by decide)) hS ?_
              try simp only [Act.put, List.setIfInBounds_toArray, List.set_cons_zero, List.set_cons_succ]
              refine wpAnyH_take (i := 11) (v := (.agg (hA ki))) (by simp only [List.getElem?_toArray, List.getElem?_cons_zero, List.getElem?_cons_succ]; rfl) (by kernel_rfl) (by kernel_rfl) (by kernel_rfl) (by exact fun _ _ _ h => h) (yieldsIf_load_mid (by kernel_rfl) _ _ rfl g (i * 33 + 1) rfl _ _ (fun v hs => hs.2) Tryz.underlying31 rfl (hL_len HKI.out)) hS ?_
              try simp only [Act.put, List.setIfInBounds_toArray, List.set_cons_zero, List.set_cons_succ]
              refine wpAnyH_take (i := 12) (v := (.bool (!true))) (by simp only [List.getElem?_toArray, List.getElem?_cons_zero, List.getElem?_cons_succ]; rfl) (by kernel_rfl) (by kernel_rfl) (by kernel_rfl) (by exact fun _ _ _ h => h) (y_neqHr (by kernel_rfl) _ _ rfl _ _ rfl rfl true eqk) hS ?_
              try simp only [Act.put, List.setIfInBounds_toArray, List.set_cons_zero, List.set_cons_succ]
              refine wpAnyH_take (i := 13) (v := (.bool false)) (by simp only [List.getElem?_toArray, List.getElem?_cons_zero, List.getElem?_cons_succ]; rfl) (by kernel_rfl) (by kernel_rfl) (by kernel_rfl) (by exact fun _ _ _ h => h) (y_pick_t (by kernel_rfl) _ _ _ rfl _ rfl rfl) hS ?_
              try simp only [Act.put, List.setIfInBounds_toArray, List.set_cons_zero, List.set_cons_succ]
              refine wpAnyH_take (i := 14) (v := (.bool false)) (by simp only [List.getElem?_toArray, List.getElem?_cons_zero, List.getElem?_cons_succ]; rfl) (by kernel_rfl) (by kernel_rfl) (by kernel_rfl) (by exact fun _ _ _ h => h) (y_assign (by kernel_rfl) _ rfl _ rfl) hS ?_
              try simp only [Act.put, List.setIfInBounds_toArray, List.set_cons_zero, List.set_cons_succ]
              refine wpAnyH_done (by kernel_rfl) ?_ _
              have HA2 : Hid (PAcc w wd u3 P) := HA.out.step HBD.out
              clear hS HBD HA eqk
              go_wp2_with fail
              go_roundg (i - (j + 1))
              case measure => omega
              case rel => exact ⟨j + 1, hji, rfl, by go_num, by rw [decide_eq_false (fun z => z j (by omega) _ (HIX.out j qj HQJ.out) (by rw [← HJ.out.2.1, ← HE.out.2]; exact HQ.out))], HA2.out⟩
            · skip
              have HQ : Hid (kj ≠ ki) := q
              clear q
              have eqk : ∀ w0 : World, (Op.equalIn 10000 31 (.agg (hA kj)) (.agg (hA ki))).run Tryz.prog w0 = .ok false w0 := fun w0 => by rw [eqH_any w0 _ _ HJ.out.2.2 HKI.out, decide_eq_false HQ.out]
              go_wp2_with fail
              have bd : Below wr.heap.size wr wr.drew := (Turn.drew (F := fun _ => False) wr).below (fun _ f => f.elim) (Nat.le_refl _)
              have HBD : Hid (Below wr.heap.size wr wr.drew) := bd
              have s0 : (fun v => v.rangeAt g (j * 33 + 1) (bv kj) ∧ v.rangeAt g (i * 33 + 1) (bv ki)) wr.drew := HRR.out _ bd
              refine wp_region_held_drew (S := fun v => v.rangeAt g (j * 33 + 1) (bv kj) ∧ v.rangeAt g (i * 33 + 1) (bv ki)) (by kernel_rfl) s0 ?_
              intro hS
              clear s0 bd
              change wpAnyH _ _ _ _ _ 15 _ _ _
              generalize wr.drew = wd at hS HBD ⊢
              refine wpAnyH_take (i := 0) (v := (.bool true)) (by simp only [List.getElem?_toArray, List.getElem?_cons_zero]; rfl) (by kernel_rfl) (by kernel_rfl) (by kernel_rfl) (by exact fun _ _ _ h => h) (y_move (by kernel_rfl) _ rfl _ rfl) hS ?_
              try simp only [Act.put, List.setIfInBounds_toArray, List.set_cons_zero, List.set_cons_succ]
              refine wpAnyH_take (i := 1) (v := (.bool true)) (by simp only [List.getElem?_toArray, List.getElem?_cons_zero, List.getElem?_cons_succ]; rfl) (by kernel_rfl) (by kernel_rfl) (by kernel_rfl) (by exact fun _ _ _ h => h) (y_move (by kernel_rfl) _ rfl _ rfl) hS ?_
              try simp only [Act.put, List.setIfInBounds_toArray, List.set_cons_zero, List.set_cons_succ]
              refine wpAnyH_take (i := 2) (v := (.slice (some ⟨g, 0, none⟩) Q.length cv)) (by simp only [List.getElem?_toArray, List.getElem?_cons_zero, List.getElem?_cons_succ]; rfl) (by kernel_rfl) (by kernel_rfl) (by kernel_rfl) (by exact fun _ _ _ h => h) (y_move (by kernel_rfl) _ rfl _ rfl) hS ?_
              try simp only [Act.put, List.setIfInBounds_toArray, List.set_cons_zero, List.set_cons_succ]
              refine wpAnyH_take (i := 3) (v := (.int .i64 (j : Nat))) (by simp only [List.getElem?_toArray, List.getElem?_cons_zero, List.getElem?_cons_succ]; rfl) (by kernel_rfl) (by kernel_rfl) (by kernel_rfl) (by exact fun _ _ _ h => h) (y_move (by kernel_rfl) _ rfl _ rfl) hS ?_
              try simp only [Act.put, List.setIfInBounds_toArray, List.set_cons_zero, List.set_cons_succ]
              refine wpAnyH_take (i := 4) (v := (.pointer (some ⟨g, j * 33, none⟩))) (by simp only [List.getElem?_toArray, List.getElem?_cons_zero, List.getElem?_cons_succ]; rfl) (by kernel_rfl) (by kernel_rfl) (by kernel_rfl) (by exact fun _ _ _ h => h) (y_indexN (by kernel_rfl) _ _ rfl g Q.length cv j rfl rfl hjq) hS ?_
              try simp only [Act.put, List.setIfInBounds_toArray, List.set_cons_zero, List.set_cons_succ]
              refine wpAnyH_take (i := 5) (v := (.pointer (some ⟨g, j * 33 + 1, none⟩))) (by simp only [List.getElem?_toArray, List.getElem?_cons_zero, List.getElem?_cons_succ]; rfl) (by kernel_rfl) (by kernel_rfl) (by kernel_rfl) (by exact fun _ _ _ h => h) (y_fieldN (by kernel_rfl) _ 1 rfl g (j * 33) rfl (by decide)) hS ?_
              try simp only [Act.put, List.setIfInBounds_toArray, List.set_cons_zero, List.set_cons_succ]
              refine wpAnyH_take (i := 6) (v := (.agg (hA kj))) (by simp only [List.getElem?_toArray, List.getElem?_cons_zero, List.getElem?_cons_succ]; rfl) (by kernel_rfl) (by kernel_rfl) (by kernel_rfl) (by exact fun _ _ _ h => h) (yieldsIf_load_mid (by kernel_rfl) _ _ rfl g (j * 33 + 1) rfl _ _ (fun v hs => hs.1) Tryz.underlying31 rfl (hL_len HJ.out.2.2)) hS ?_
              try simp only [Act.put, List.setIfInBounds_toArray, List.set_cons_zero, List.set_cons_succ]
              refine wpAnyH_take (i := 7) (v := (.slice (some ⟨g, 0, none⟩) Q.length cv)) (by simp only [List.getElem?_toArray, List.getElem?_cons_zero, List.getElem?_cons_succ]; rfl) (by kernel_rfl) (by kernel_rfl) (by kernel_rfl) (by exact fun _ _ _ h => h) (y_move (by kernel_rfl) _ rfl _ rfl) hS ?_
              try simp only [Act.put, List.setIfInBounds_toArray, List.set_cons_zero, List.set_cons_succ]
              refine wpAnyH_take (i := 8) (v := (.int .i64 (i : Nat))) (by simp only [List.getElem?_toArray, List.getElem?_cons_zero, List.getElem?_cons_succ]; rfl) (by kernel_rfl) (by kernel_rfl) (by kernel_rfl) (by exact fun _ _ _ h => h) (y_move (by kernel_rfl) _ rfl _ rfl) hS ?_
              try simp only [Act.put, List.setIfInBounds_toArray, List.set_cons_zero, List.set_cons_succ]
              refine wpAnyH_take (i := 9) (v := (.pointer (some ⟨g, i * 33, none⟩))) (by simp only [List.getElem?_toArray, List.getElem?_cons_zero, List.getElem?_cons_succ]; rfl) (by kernel_rfl) (by kernel_rfl) (by kernel_rfl) (by exact fun _ _ _ h => h) (y_indexN (by kernel_rfl) _ _ rfl g Q.length cv i rfl rfl HIQ.out) hS ?_
              try simp only [Act.put, List.setIfInBounds_toArray, List.set_cons_zero, List.set_cons_succ]
              refine wpAnyH_take (i := 10) (v := (.pointer (some ⟨g, i * 33 + 1, none⟩))) (by simp only [List.getElem?_toArray, List.getElem?_cons_zero, List.getElem?_cons_succ]; rfl) (by kernel_rfl) (by kernel_rfl) (by kernel_rfl) (by exact fun _ _ _ h => h) (y_fieldN (by kernel_rfl) _ 1 rfl g (i * 33) rfl (by decide)) hS ?_
              try simp only [Act.put, List.setIfInBounds_toArray, List.set_cons_zero, List.set_cons_succ]
              refine wpAnyH_take (i := 11) (v := (.agg (hA ki))) (by simp only [List.getElem?_toArray, List.getElem?_cons_zero, List.getElem?_cons_succ]; rfl) (by kernel_rfl) (by kernel_rfl) (by kernel_rfl) (by exact fun _ _ _ h => h) (yieldsIf_load_mid (by kernel_rfl) _ _ rfl g (i * 33 + 1) rfl _ _ (fun v hs => hs.2) Tryz.underlying31 rfl (hL_len HKI.out)) hS ?_
              try simp only [Act.put, List.setIfInBounds_toArray, List.set_cons_zero, List.set_cons_succ]
              refine wpAnyH_take (i := 12) (v := (.bool (!false))) (by simp only [List.getElem?_toArray, List.getElem?_cons_zero, List.getElem?_cons_succ]; rfl) (by kernel_rfl) (by kernel_rfl) (by kernel_rfl) (by exact fun _ _ _ h => h) (y_neqHr (by kernel_rfl) _ _ rfl _ _ rfl rfl false eqk) hS ?_
              try simp only [Act.put, List.setIfInBounds_toArray, List.set_cons_zero, List.set_cons_succ]
              refine wpAnyH_take (i := 13) (v := (.bool true)) (by simp only [List.getElem?_toArray, List.getElem?_cons_zero, List.getElem?_cons_succ]; rfl) (by kernel_rfl) (by kernel_rfl) (by kernel_rfl) (by exact fun _ _ _ h => h) (y_pick_t (by kernel_rfl) _ _ _ rfl _ rfl rfl) hS ?_
              try simp only [Act.put, List.setIfInBounds_toArray, List.set_cons_zero, List.set_cons_succ]
              refine wpAnyH_take (i := 14) (v := (.bool true)) (by simp only [List.getElem?_toArray, List.getElem?_cons_zero, List.getElem?_cons_succ]; rfl) (by kernel_rfl) (by kernel_rfl) (by kernel_rfl) (by exact fun _ _ _ h => h) (y_assign (by kernel_rfl) _ rfl _ rfl) hS ?_
              try simp only [Act.put, List.setIfInBounds_toArray, List.set_cons_zero, List.set_cons_succ]
              refine wpAnyH_done (by kernel_rfl) ?_ _
              have HA2 : Hid (PAcc w wd u3 P) := HA.out.step HBD.out
              clear hS HBD HA eqk
              go_wp2_with fail
              go_roundg (i - (j + 1))
              case measure => omega
              case rel =>
                refine ⟨j + 1, hji, rfl, by go_num, ?_, HA2.out⟩
                rw [decide_eq_true (fun m hm c hc => ?_)]
                by_cases e : m = j
                · subst e
                  rw [HIX.out m qj HQJ.out] at hc
                  have hc := Option.some.inj hc
                  subst hc
                  rw [← HJ.out.2.1, ← HE.out.2]
                  exact HQ.out
                · exact HL.out m (by omega) c hc
          · have HL : Hid (¬ ∀ m, m < j → ∀ c, (Q.map FG.s)[m]? = some c → κ c ≠ κ qi.s) := hl
            rw [decide_eq_false hl]
            clear hl
            go_wp2_with fail
            have bd : Below wr.heap.size wr wr.drew := (Turn.drew (F := fun _ => False) wr).below (fun _ f => f.elim) (Nat.le_refl _)
            have HBD : Hid (Below wr.heap.size wr wr.drew) := bd
            have s0 : (fun _ => True) wr.drew := trivial
            refine wp_region_held_drew (S := fun _ => True) (by kernel_rfl) s0 ?_
            intro hS
            clear s0 bd
            change wpAnyH _ _ _ _ _ 15 _ _ _
            generalize wr.drew = wd at hS HBD ⊢
            refine wpAnyH_take (i := 0) (v := (.bool false)) (by simp only [List.getElem?_toArray, List.getElem?_cons_zero]; rfl) (by kernel_rfl) (by kernel_rfl) (by kernel_rfl) (by exact fun _ _ _ h => h) (y_move (by kernel_rfl) _ rfl _ rfl) hS ?_
            try simp only [Act.put, List.setIfInBounds_toArray, List.set_cons_zero, List.set_cons_succ]
            refine wpAnyH_take (i := 1) (v := (.bool false)) (by simp only [List.getElem?_toArray, List.getElem?_cons_zero, List.getElem?_cons_succ]; rfl) (by kernel_rfl) (by kernel_rfl) (by kernel_rfl) (by exact fun _ _ _ h => h) (y_move (by kernel_rfl) _ rfl _ rfl) hS ?_
            try simp only [Act.put, List.setIfInBounds_toArray, List.set_cons_zero, List.set_cons_succ]
            refine wpAnyH_take (i := 2) (v := undef) (by simp only [List.getElem?_toArray, List.getElem?_cons_zero, List.getElem?_cons_succ]; rfl) (by kernel_rfl) (by kernel_rfl) (by kernel_rfl) (by exact fun _ _ _ h => h) (y_no (by kernel_rfl)) hS ?_
            try simp only [Act.put, List.setIfInBounds_toArray, List.set_cons_zero, List.set_cons_succ]
            refine wpAnyH_take (i := 3) (v := undef) (by simp only [List.getElem?_toArray, List.getElem?_cons_zero, List.getElem?_cons_succ]; rfl) (by kernel_rfl) (by kernel_rfl) (by kernel_rfl) (by exact fun _ _ _ h => h) (y_no (by kernel_rfl)) hS ?_
            try simp only [Act.put, List.setIfInBounds_toArray, List.set_cons_zero, List.set_cons_succ]
            refine wpAnyH_take (i := 4) (v := undef) (by simp only [List.getElem?_toArray, List.getElem?_cons_zero, List.getElem?_cons_succ]; rfl) (by kernel_rfl) (by kernel_rfl) (by kernel_rfl) (by exact fun _ _ _ h => h) (y_no (by kernel_rfl)) hS ?_
            try simp only [Act.put, List.setIfInBounds_toArray, List.set_cons_zero, List.set_cons_succ]
            refine wpAnyH_take (i := 5) (v := undef) (by simp only [List.getElem?_toArray, List.getElem?_cons_zero, List.getElem?_cons_succ]; rfl) (by kernel_rfl) (by kernel_rfl) (by kernel_rfl) (by exact fun _ _ _ h => h) (y_no (by kernel_rfl)) hS ?_
            try simp only [Act.put, List.setIfInBounds_toArray, List.set_cons_zero, List.set_cons_succ]
            refine wpAnyH_take (i := 6) (v := undef) (by simp only [List.getElem?_toArray, List.getElem?_cons_zero, List.getElem?_cons_succ]; rfl) (by kernel_rfl) (by kernel_rfl) (by kernel_rfl) (by exact fun _ _ _ h => h) (y_no (by kernel_rfl)) hS ?_
            try simp only [Act.put, List.setIfInBounds_toArray, List.set_cons_zero, List.set_cons_succ]
            refine wpAnyH_take (i := 7) (v := undef) (by simp only [List.getElem?_toArray, List.getElem?_cons_zero, List.getElem?_cons_succ]; rfl) (by kernel_rfl) (by kernel_rfl) (by kernel_rfl) (by exact fun _ _ _ h => h) (y_no (by kernel_rfl)) hS ?_
            try simp only [Act.put, List.setIfInBounds_toArray, List.set_cons_zero, List.set_cons_succ]
            refine wpAnyH_take (i := 8) (v := undef) (by simp only [List.getElem?_toArray, List.getElem?_cons_zero, List.getElem?_cons_succ]; rfl) (by kernel_rfl) (by kernel_rfl) (by kernel_rfl) (by exact fun _ _ _ h => h) (y_no (by kernel_rfl)) hS ?_
            try simp only [Act.put, List.setIfInBounds_toArray, List.set_cons_zero, List.set_cons_succ]
            refine wpAnyH_take (i := 9) (v := undef) (by simp only [List.getElem?_toArray, List.getElem?_cons_zero, List.getElem?_cons_succ]; rfl) (by kernel_rfl) (by kernel_rfl) (by kernel_rfl) (by exact fun _ _ _ h => h) (y_no (by kernel_rfl)) hS ?_
            try simp only [Act.put, List.setIfInBounds_toArray, List.set_cons_zero, List.set_cons_succ]
            refine wpAnyH_take (i := 10) (v := undef) (by simp only [List.getElem?_toArray, List.getElem?_cons_zero, List.getElem?_cons_succ]; rfl) (by kernel_rfl) (by kernel_rfl) (by kernel_rfl) (by exact fun _ _ _ h => h) (y_no (by kernel_rfl)) hS ?_
            try simp only [Act.put, List.setIfInBounds_toArray, List.set_cons_zero, List.set_cons_succ]
            refine wpAnyH_take (i := 11) (v := undef) (by simp only [List.getElem?_toArray, List.getElem?_cons_zero, List.getElem?_cons_succ]; rfl) (by kernel_rfl) (by kernel_rfl) (by kernel_rfl) (by exact fun _ _ _ h => h) (y_no (by kernel_rfl)) hS ?_
            try simp only [Act.put, List.setIfInBounds_toArray, List.set_cons_zero, List.set_cons_succ]
            refine wpAnyH_take (i := 12) (v := undef) (by simp only [List.getElem?_toArray, List.getElem?_cons_zero, List.getElem?_cons_succ]; rfl) (by kernel_rfl) (by kernel_rfl) (by kernel_rfl) (by exact fun _ _ _ h => h) (y_no (by kernel_rfl)) hS ?_
            try simp only [Act.put, List.setIfInBounds_toArray, List.set_cons_zero, List.set_cons_succ]
            refine wpAnyH_take (i := 13) (v := (.bool false)) (by simp only [List.getElem?_toArray, List.getElem?_cons_zero, List.getElem?_cons_succ]; rfl) (by kernel_rfl) (by kernel_rfl) (by kernel_rfl) (by exact fun _ _ _ h => h) (y_pick_f (by kernel_rfl) _ _ _ rfl _ rfl rfl) hS ?_
            try simp only [Act.put, List.setIfInBounds_toArray, List.set_cons_zero, List.set_cons_succ]
            refine wpAnyH_take (i := 14) (v := (.bool false)) (by simp only [List.getElem?_toArray, List.getElem?_cons_zero, List.getElem?_cons_succ]; rfl) (by kernel_rfl) (by kernel_rfl) (by kernel_rfl) (by exact fun _ _ _ h => h) (y_assign (by kernel_rfl) _ rfl _ rfl) hS ?_
            try simp only [Act.put, List.setIfInBounds_toArray, List.set_cons_zero, List.set_cons_succ]
            refine wpAnyH_done (by kernel_rfl) ?_ _
            have HA2 : Hid (PAcc w wd u3 P) := HA.out.step HBD.out
            clear hS HBD HA
            go_wp2_with fail
            go_roundg (i - (j + 1))
            case measure => omega
            case rel => exact ⟨j + 1, hji, rfl, by go_num, by rw [decide_eq_false (fun z => HL.out (fun m hm c hc => z m (by omega) c hc))], HA2.out⟩
        · have ej : j = i := by omega
          subst ej
          have i2 : ¬ ((j : Int) < (j : Int)) := by omega
          by_cases hl : ∀ m, m < j → ∀ c, (Q.map FG.s)[m]? = some c → κ c ≠ κ qi.s
          · have HL : Hid (∀ m, m < j → ∀ c, (Q.map FG.s)[m]? = some c → κ c ≠ κ qi.s) := hl
            rw [decide_eq_true hl]
            clear hl
            have HP1 : Hid (Part κ (Q.map FG.s) j (j + 1) (P.map PR.ab)) := HP.out.begin HR.out
            obtain ⟨i, ei⟩ : ∃ i, i = j := ⟨_, rfl⟩
            subst ei
            go_wp2_with fail
            go_loopg [3, 7] (Q.length - (i + 1)) (fun gg v jj wq => ∃ (j : Nat) (P2 : List PR), i + 1 ≤ j ∧ j ≤ Q.length ∧ gg = Q.length - j ∧ jj = .int .i64 j ∧ PAcc w wq v P2 ∧ Part κ (Q.map FG.s) i j (P2.map PR.ab))
            case atStart => exact ⟨i + 1, P, Nat.le_refl _, HIQ.out, rfl, by go_num, HA.out, HP1.out⟩
            case round =>
              obtain ⟨j, P2, hij, hjl, rfl, rfl, hA2, hP2⟩ := hrel
              clear HA HP1 HP
              have HA : Hid (PAcc w wr u3 P2 ∧ Part κ (Q.map FG.s) i j (P2.map PR.ab) ∧ P2.length ≤ 274877906944) := ⟨hA2, hP2, by
                have := hP2.le HR.out
                rw [List.length_map, HLL.out] at this
                omega⟩
              clear hA2 hP2
              by_cases hjq : j < Q.length
              · have i3 : (j : Int) < (Q.length : Int) := by omega
                have HIJ : Hid (i < j) := by show i < j; omega
                obtain ⟨qj, eqj⟩ : ∃ qj, Q[j]? = some qj := ⟨_, List.getElem?_eq_getElem hjq⟩
                have HQJ : Hid (Q[j]? = some qj) := eqj
                obtain ⟨kj, ekj⟩ : ∃ kj, kj = qj.k := ⟨_, rfl⟩
                have HJ : Hid (kj = qj.k ∧ kj = κ qj.s ∧ IsH kj) := ⟨ekj, ekj.trans (HN.out.2.1 _ (HN.out.1.ix j qj eqj).2.2.1), by rw [ekj]; exact HN.out.1.key _ (HN.out.1.ix j qj eqj).2.2.1⟩
                have HRR : Hid (∀ v, Below wr.heap.size wr v → v.rangeAt g (j * 33 + 1) (bv kj) ∧ v.rangeAt g (i * 33 + 1) (bv ki)) := fun v hv => by
                  have hb := HA.out.1.below.trans (hv.mono HA.out.1.below.size)
                  have h1 := HRG.out v hb j qj HQJ.out
                  have h2 := HRG.out v hb i qi HQI.out
                  rw [← HJ.out.1] at h1
                  rw [← HE.out.1] at h2
                  exact ⟨h1, h2⟩
                clear ekj eqj
                by_cases q : kj = ki
                · skip
                  have HQ : Hid (kj = ki) := q
                  clear q
                  have eqk : ∀ w0 : World, (Op.equalIn 10000 31 (.agg (hA kj)) (.agg (hA ki))).run Tryz.prog w0 = .ok true w0 := fun w0 => by rw [eqH_any w0 _ _ HJ.out.2.2 HKI.out, decide_eq_true HQ.out]
                  go_wp2_with fail
                  have bd : Below wr.heap.size wr wr.drew := (Turn.drew (F := fun _ => False) wr).below (fun _ f => f.elim) (Nat.le_refl _)
                  have HBD : Hid (Below wr.heap.size wr wr.drew) := bd
                  have s0 : (fun v => v.rangeAt g (j * 33 + 1) (bv kj) ∧ v.rangeAt g (i * 33 + 1) (bv ki)) wr.drew := HRR.out _ bd
                  refine wp_region_held_drew (S := fun v => v.rangeAt g (j * 33 + 1) (bv kj) ∧ v.rangeAt g (i * 33 + 1) (bv ki)) (by kernel_rfl) s0 ?_
                  intro hS
                  clear s0 bd
                  change wpAnyH _ _ _ _ _ 11 _ _ _
                  generalize wr.drew = wd at hS HBD ⊢
                  refine wpAnyH_take (i := 0) (v := (.slice (some ⟨g, 0, none⟩) Q.length cv)) (by simp only [List.getElem?_toArray, List.getElem?_cons_zero]; rfl) (by kernel_rfl) (by kernel_rfl) (by kernel_rfl) (by exact fun _ _ _ h => h) (y_move (by kernel_rfl) _ rfl _ rfl) hS ?_
                  try simp only [Act.put, List.setIfInBounds_toArray, List.set_cons_zero, List.set_cons_succ]
                  refine wpAnyH_take (i := 1) (v := (.int .i64 (j : Nat))) (by simp only [List.getElem?_toArray, List.getElem?_cons_zero, List.getElem?_cons_succ]; rfl) (by kernel_rfl) (by kernel_rfl) (by kernel_rfl) (by exact fun _ _ _ h => h) (y_move (by kernel_rfl) _ rfl _ rfl) hS ?_
                  try simp only [Act.put, List.setIfInBounds_toArray, List.set_cons_zero, List.set_cons_succ]
                  refine wpAnyH_take (i := 2) (v := (.pointer (some ⟨g, j * 33, none⟩))) (by simp only [List.getElem?_toArray, List.getElem?_cons_zero, List.getElem?_cons_succ]; rfl) (by kernel_rfl) (by kernel_rfl) (by kernel_rfl) (by exact fun _ _ _ h => h) (y_indexN (by kernel_rfl) _ _ rfl g Q.length cv j rfl rfl hjq) hS ?_
                  try simp only [Act.put, List.setIfInBounds_toArray, List.set_cons_zero, List.set_cons_succ]
                  refine wpAnyH_take (i := 3) (v := (.pointer (some ⟨g, j * 33 + 1, none⟩))) (by simp only [List.getElem?_toArray, List.getElem?_cons_zero, List.getElem?_cons_succ]; rfl) (by kernel_rfl) (by kernel_rfl) (by kernel_rfl) (by exact fun _ _ _ h => h) (y_fieldN (by kernel_rfl) _ 1 rfl g (j * 33) rfl (by decide)) hS ?_
                  try simp only [Act.put, List.setIfInBounds_toArray, List.set_cons_zero, List.set_cons_succ]
                  refine wpAnyH_take (i := 4) (v := (.agg (hA kj))) (by simp only [List.getElem?_toArray, List.getElem?_cons_zero, List.getElem?_cons_succ]; rfl) (by kernel_rfl) (by kernel_rfl) (by kernel_rfl) (by exact fun _ _ _ h => h) (yieldsIf_load_mid (by kernel_rfl) _ _ rfl g (j * 33 + 1) rfl _ _ (fun v hs => hs.1) Tryz.underlying31 rfl (hL_len HJ.out.2.2)) hS ?_
                  try simp only [Act.put, List.setIfInBounds_toArray, List.set_cons_zero, List.set_cons_succ]
                  refine wpAnyH_take (i := 5) (v := (.slice (some ⟨g, 0, none⟩) Q.length cv)) (by simp only [List.getElem?_toArray, List.getElem?_cons_zero, List.getElem?_cons_succ]; rfl) (by kernel_rfl) (by kernel_rfl) (by kernel_rfl) (by exact fun _ _ _ h => h) (y_move (by kernel_rfl) _ rfl _ rfl) hS ?_
                  try simp only [Act.put, List.setIfInBounds_toArray, List.set_cons_zero, List.set_cons_succ]
                  refine wpAnyH_take (i := 6) (v := (.int .i64 (i : Nat))) (by simp only [List.getElem?_toArray, List.getElem?_cons_zero, List.getElem?_cons_succ]; rfl) (by kernel_rfl) (by kernel_rfl) (by kernel_rfl) (by exact fun _ _ _ h => h) (y_move (by kernel_rfl) _ rfl _ rfl) hS ?_
                  try simp only [Act.put, List.setIfInBounds_toArray, List.set_cons_zero, List.set_cons_succ]
                  refine wpAnyH_take (i := 7) (v := (.pointer (some ⟨g, i * 33, none⟩))) (by simp only [List.getElem?_toArray, List.getElem?_cons_zero, List.getElem?_cons_succ]; rfl) (by kernel_rfl) (by kernel_rfl) (by kernel_rfl) (by exact fun _ _ _ h => h) (y_indexN (by kernel_rfl) _ _ rfl g Q.length cv i rfl rfl HIQ.out) hS ?_
                  try simp only [Act.put, List.setIfInBounds_toArray, List.set_cons_zero, List.set_cons_succ]
                  refine wpAnyH_take (i := 8) (v := (.pointer (some ⟨g, i * 33 + 1, none⟩))) (by simp only [List.getElem?_toArray, List.getElem?_cons_zero, List.getElem?_cons_succ]; rfl) (by kernel_rfl) (by kernel_rfl) (by kernel_rfl) (by exact fun _ _ _ h => h) (y_fieldN (by kernel_rfl) _ 1 rfl g (i * 33) rfl (by decide)) hS ?_
                  try simp only [Act.put, List.setIfInBounds_toArray, List.set_cons_zero, List.set_cons_succ]
                  refine wpAnyH_take (i := 9) (v := (.agg (hA ki))) (by simp only [List.getElem?_toArray, List.getElem?_cons_zero, List.getElem?_cons_succ]; rfl) (by kernel_rfl) (by kernel_rfl) (by kernel_rfl) (by exact fun _ _ _ h => h) (yieldsIf_load_mid (by kernel_rfl) _ _ rfl g (i * 33 + 1) rfl _ _ (fun v hs => hs.2) Tryz.underlying31 rfl (hL_len HKI.out)) hS ?_
                  try simp only [Act.put, List.setIfInBounds_toArray, List.set_cons_zero, List.set_cons_succ]
                  refine wpAnyH_take (i := 10) (v := (.bool true)) (by simp only [List.getElem?_toArray, List.getElem?_cons_zero, List.getElem?_cons_succ]; rfl) (by kernel_rfl) (by kernel_rfl) (by kernel_rfl) (by exact fun _ _ _ h => h) (y_eqlH (by kernel_rfl) _ _ rfl _ _ rfl rfl _ eqk) hS ?_
                  try simp only [Act.put, List.setIfInBounds_toArray, List.set_cons_zero, List.set_cons_succ]
                  refine wpAnyH_done (by kernel_rfl) ?_ _
                  have HA2 : Hid (PAcc w wd u3 P2) := HA.out.1.step HBD.out
                  clear hS eqk HRR
                  clear HBD
                  obtain ⟨⟨pi, gi, ci, cei, vwi, nli⟩, _, mi, _⟩ := HN.out.1.ix i qi HQI.out
                  obtain ⟨⟨pj, gj, cj, cej, vwj, nlj⟩, _, mj, _⟩ := HN.out.1.ix j qj HQJ.out
                  have HSL : Hid (qi.s.length ≤ 140737488351232 ∧ qj.s.length ≤ 140737488351232) := ⟨HN.out.2.2 _ mi, HN.out.2.2 _ mj⟩
                  have HNL : Hid ((pi = none → ci = 0) ∧ (pj = none → cj = 0)) := ⟨nli, nlj⟩
                  clear nli nlj mi mj
                  obtain ⟨si, esi⟩ : ∃ si, si = qi.s := ⟨_, rfl⟩
                  obtain ⟨sj, esj⟩ : ∃ sj, sj = qj.s := ⟨_, rfl⟩
                  rw [← esi] at cei vwi
                  rw [← esj] at cej vwj
                  rw [← esi, ← esj] at HSL
                  have HSE : Hid (si = qi.s ∧ sj = qj.s) := ⟨esi, esj⟩
                  clear esi esj
                  obtain ⟨wr2, hwr2⟩ : ∃ wr2, wr2 = wd := ⟨_, rfl⟩
                  subst hwr2
                  have HV : Hid (∀ v, Below wr2.heap.size wr2 v → Vw v pi gi 0 si ∧ Vw v pj gj 0 sj) := fun v hv => by
                    have hb := HA2.out.below.trans (hv.mono HA2.out.below.size)
                    exact ⟨vwi.below hb, vwj.below hb⟩
                  have HCE : Hid (∀ v, Turn (fun i => u3.ownBlock = some i) wr2 v → v.cell? ⟨g, i * 33, none⟩ = some (.slice pi si.length ci) ∧ v.cell? ⟨g, j * 33, none⟩ = some (.slice pj sj.length cj)) := fun v hv => by
                    obtain ⟨cur, hc⟩ := (HN.out.1.below HA2.out.below).block
                    have ne := own_ne_cells HA2.out.own hc (by decide)
                    have lg : g < wr2.heap.size := (Array.getElem?_eq_some_iff.1 hc).1
                    exact ⟨((hv.cell (q := ⟨g, i * 33, none⟩) lg ne).trans (HA2.out.below.cell (p := ⟨g, i * 33, none⟩) HGL.out)).trans cei, ((hv.cell (q := ⟨g, j * 33, none⟩) lg ne).trans (HA2.out.below.cell (p := ⟨g, j * 33, none⟩) HGL.out)).trans cej⟩
                  have HKO : Hid (Bs si ∧ Bs sj) := ⟨vw_ok vwi, vw_ok vwj⟩
                  clear cei cej vwi vwj
                  go_wp2_with fail
                  have bd : Below wr2.heap.size wr2 wr2.drew := (Turn.drew (F := fun _ => False) wr2).below (fun _ f => f.elim) (Nat.le_refl _)
                  have s0 : (fun v => Turn (fun i => u3.ownBlock = some i) wr2 v) wr2.drew := Turn.drew wr2
                  have HT0 : Hid (TwoRows wr2 wr2.drew (.slice none 0 0) 0 [] (.slice none 0 0) 0 []) := TwoRows.start bd
                  refine wp_region_held_drew (S := fun v => Turn (fun i => u3.ownBlock = some i) wr2 v) (by kernel_rfl) s0 ?_
                  intro hS
                  clear s0 bd
                  change wpAnyH _ _ _ _ _ 19 _ _ _
                  generalize wr2.drew = wd at hS HT0 ⊢
                  refine wpAnyH_take (i := 0) (v := u3) (by simp only [List.getElem?_toArray, List.getElem?_cons_zero]; rfl) (by kernel_rfl) (by kernel_rfl) (by kernel_rfl) (by exact fun _ _ _ h => h) (y_move (by kernel_rfl) _ rfl _ rfl) hS ?_
                  try simp only [Act.put, List.setIfInBounds_toArray, List.set_cons_zero, List.set_cons_succ]
                  refine wpAnyH_take (i := 2) (v := (.slice (some ⟨g, 0, none⟩) Q.length cv)) (by simp only [List.getElem?_toArray, List.getElem?_cons_zero, List.getElem?_cons_succ]; rfl) (by kernel_rfl) (by kernel_rfl) (by kernel_rfl) (by exact fun _ _ _ h => h) (y_move (by kernel_rfl) _ rfl _ rfl) hS ?_
                  try simp only [Act.put, List.setIfInBounds_toArray, List.set_cons_zero, List.set_cons_succ]
                  refine wpAnyH_take (i := 3) (v := (.int .i64 (i : Nat))) (by simp only [List.getElem?_toArray, List.getElem?_cons_zero, List.getElem?_cons_succ]; rfl) (by kernel_rfl) (by kernel_rfl) (by kernel_rfl) (by exact fun _ _ _ h => h) (y_move (by kernel_rfl) _ rfl _ rfl) hS ?_
                  try simp only [Act.put, List.setIfInBounds_toArray, List.set_cons_zero, List.set_cons_succ]
                  refine wpAnyH_take (i := 4) (v := (.pointer (some ⟨g, i * 33, none⟩))) (by simp only [List.getElem?_toArray, List.getElem?_cons_zero, List.getElem?_cons_succ]; rfl) (by kernel_rfl) (by kernel_rfl) (by kernel_rfl) (by exact fun _ _ _ h => h) (y_indexN (by kernel_rfl) _ _ rfl g Q.length cv i rfl rfl HIQ.out) hS ?_
                  try simp only [Act.put, List.setIfInBounds_toArray, List.set_cons_zero, List.set_cons_succ]
                  refine wpAnyH_take (i := 5) (v := (.pointer (some ⟨g, i * 33 + 0, none⟩))) (by simp only [List.getElem?_toArray, List.getElem?_cons_zero, List.getElem?_cons_succ]; rfl) (by kernel_rfl) (by kernel_rfl) (by kernel_rfl) (by exact fun _ _ _ h => h) (y_fieldN (by kernel_rfl) _ 0 rfl g (i * 33) rfl (by decide)) hS ?_
                  try simp only [Act.put, List.setIfInBounds_toArray, List.set_cons_zero, List.set_cons_succ]
                  refine wpAnyH_take (i := 6) (v := (.slice pi si.length ci)) (by simp only [List.getElem?_toArray, List.getElem?_cons_zero, List.getElem?_cons_succ]; rfl) (by kernel_rfl) (by kernel_rfl) (by kernel_rfl) (by exact fun _ _ _ h => h) (y_loadB (by kernel_rfl) _ rfl g (i * 33 + 0) rfl _ (fun v hs => (HCE.out v hs).1)) hS ?_
                  try simp only [Act.put, List.setIfInBounds_toArray, List.set_cons_zero, List.set_cons_succ]
                  refine wpAnyH_take (i := 9) (v := (.slice (some ⟨g, 0, none⟩) Q.length cv)) (by simp only [List.getElem?_toArray, List.getElem?_cons_zero, List.getElem?_cons_succ]; rfl) (by kernel_rfl) (by kernel_rfl) (by kernel_rfl) (by exact fun _ _ _ h => h) (y_move (by kernel_rfl) _ rfl _ rfl) hS ?_
                  try simp only [Act.put, List.setIfInBounds_toArray, List.set_cons_zero, List.set_cons_succ]
                  refine wpAnyH_take (i := 10) (v := (.int .i64 (j : Nat))) (by simp only [List.getElem?_toArray, List.getElem?_cons_zero, List.getElem?_cons_succ]; rfl) (by kernel_rfl) (by kernel_rfl) (by kernel_rfl) (by exact fun _ _ _ h => h) (y_move (by kernel_rfl) _ rfl _ rfl) hS ?_
                  try simp only [Act.put, List.setIfInBounds_toArray, List.set_cons_zero, List.set_cons_succ]
                  refine wpAnyH_take (i := 11) (v := (.pointer (some ⟨g, j * 33, none⟩))) (by simp only [List.getElem?_toArray, List.getElem?_cons_zero, List.getElem?_cons_succ]; rfl) (by kernel_rfl) (by kernel_rfl) (by kernel_rfl) (by exact fun _ _ _ h => h) (y_indexN (by kernel_rfl) _ _ rfl g Q.length cv j rfl rfl hjq) hS ?_
                  try simp only [Act.put, List.setIfInBounds_toArray, List.set_cons_zero, List.set_cons_succ]
                  refine wpAnyH_take (i := 12) (v := (.pointer (some ⟨g, j * 33 + 0, none⟩))) (by simp only [List.getElem?_toArray, List.getElem?_cons_zero, List.getElem?_cons_succ]; rfl) (by kernel_rfl) (by kernel_rfl) (by kernel_rfl) (by exact fun _ _ _ h => h) (y_fieldN (by kernel_rfl) _ 0 rfl g (j * 33) rfl (by decide)) hS ?_
                  try simp only [Act.put, List.setIfInBounds_toArray, List.set_cons_zero, List.set_cons_succ]
                  refine wpAnyH_take (i := 13) (v := (.slice pj sj.length cj)) (by simp only [List.getElem?_toArray, List.getElem?_cons_zero, List.getElem?_cons_succ]; rfl) (by kernel_rfl) (by kernel_rfl) (by kernel_rfl) (by exact fun _ _ _ h => h) (y_loadB (by kernel_rfl) _ rfl g (j * 33 + 0) rfl _ (fun v hs => (HCE.out v hs).2)) hS ?_
                  try simp only [Act.put, List.setIfInBounds_toArray, List.set_cons_zero, List.set_cons_succ]
                  refine wpAnyH_ready (rs := [1, 8]) (by kernel_rfl) (by simp) ?_
                  refine AllReadyH.cons (by simp only [List.getElem?_toArray, List.getElem?_cons_zero, List.getElem?_cons_succ]; rfl) (fun K hK => ?_) (AllReadyH.cons (by simp only [List.getElem?_toArray, List.getElem?_cons_zero, List.getElem?_cons_succ]; rfl) (fun K hK => ?_) AllReadyH.nil)
                  · skip
                    go_simp
                    obtain ⟨w1, hw1⟩ : ∃ w1, w1 = wd.alloc (.cells #[] 5) := ⟨_, rfl⟩
                    obtain ⟨x1, hx1⟩ : ∃ x1, x1 = wd.heap.size := ⟨_, rfl⟩
                    have HT1 := HT0.out.lay
                    rw [← hw1, ← hx1] at HT1
                    rw [← hw1, ← hx1]
                    clear hw1 hx1 HT0
                    have HHT1 : Hid (TwoRows wr2 w1 _ _ _ _ _ _) := HT1
                    clear HT1
                    refine hK.out _ _ (Turn.of_below HHT1.out.below) (fun hS => ?_)
                    clear hK K
                    try simp only [Act.put, List.setIfInBounds_toArray, List.set_cons_zero, List.set_cons_succ]
                    refine wpAnyH_ready (rs := [7, 8]) (by kernel_rfl) (by simp) ?_
                    refine AllReadyH.cons (by simp only [List.getElem?_toArray, List.getElem?_cons_zero, List.getElem?_cons_succ]; rfl) (fun K hK => ?_) (AllReadyH.cons (by simp only [List.getElem?_toArray, List.getElem?_cons_zero, List.getElem?_cons_succ]; rfl) (fun K hK => ?_) AllReadyH.nil)
                    · skip
                      refine step_append_bytes_at (by rfl) _ _ rfl wr2.heap.size _ 0 [] rfl HHT1.out.o1 pi gi 0 ci si rfl (HV.out _ HHT1.out.below).1 HNL.out.1 (by have := HSL.out; omega) HHT1.out.below.size ?_
                      intro v1 w2 own gr at_
                      have own' : w2.ownsRow wr2.heap.size 5 1 v1 si.length (bv si) := by simpa using own
                      have HT2 := HHT1.out.grow own' gr at_
                      obtain ⟨a1, c1', rfl⟩ := own_slice own'
                      have HHT2 : Hid (TwoRows wr2 w2 _ _ _ _ _ _) := HT2
                      clear own own' gr at_ HT2 HHT1
                      refine hK.out _ _ (Turn.of_below HHT2.out.below) (fun hS => ?_)
                      clear hK K
                      try simp only [Act.put, List.setIfInBounds_toArray, List.set_cons_zero, List.set_cons_succ]
                      refine wpAnyH_ready (rs := [8]) (by kernel_rfl) (by simp) ?_
                      refine AllReadyH.cons (by simp only [List.getElem?_toArray, List.getElem?_cons_zero, List.getElem?_cons_succ]; rfl) (fun K hK => ?_) AllReadyH.nil
                      go_simp
                      obtain ⟨w3, hw3⟩ : ∃ w3, w3 = w2.alloc (.cells #[] 5) := ⟨_, rfl⟩
                      obtain ⟨x2, hx2⟩ : ∃ x2, x2 = w2.heap.size := ⟨_, rfl⟩
                      have HT3 := HHT2.out.swap.lay.swap
                      rw [← hw3, ← hx2] at HT3
                      rw [← hw3, ← hx2]
                      clear hw3 hx2 HHT2
                      have HHT3 : Hid (TwoRows wr2 w3 _ _ _ _ _ _) := HT3
                      clear HT3
                      refine hK.out _ _ (Turn.of_below HHT3.out.below) (fun hS => ?_)
                      clear hK K
                      try simp only [Act.put, List.setIfInBounds_toArray, List.set_cons_zero, List.set_cons_succ]
                      refine wpAnyH_ready (rs := [14]) (by kernel_rfl) (by simp) ?_
                      refine AllReadyH.cons (by simp only [List.getElem?_toArray, List.getElem?_cons_zero, List.getElem?_cons_succ]; rfl) (fun K hK => ?_) AllReadyH.nil
                      refine step_append_bytes_at (by rfl) _ _ rfl wr2.heap.size _ 0 [] rfl HHT3.out.o2 pj gj 0 cj sj rfl (HV.out _ HHT3.out.below).2 HNL.out.2 (by have := HSL.out; omega) HHT3.out.below.size ?_
                      intro v2 w4 own gr at_
                      have own' : w4.ownsRow wr2.heap.size 5 1 v2 sj.length (bv sj) := by simpa using own
                      have HT4 := (HHT3.out.swap.grow own' gr at_).swap
                      obtain ⟨a2, c2', rfl⟩ := own_slice own'
                      have HHT4 : Hid (TwoRows wr2 w4 _ _ _ _ _ _) := HT4
                      clear own own' gr at_ HT4 HHT3
                      refine hK.out _ _ (Turn.of_below HHT4.out.below) (fun hS => ?_)
                      clear hK K
                      try simp only [Act.put, List.setIfInBounds_toArray, List.set_cons_zero, List.set_cons_succ]
                      refine wpAnyH_take (i := 15) (v := (.agg #[.slice a1 si.length c1', .slice a2 sj.length c2'])) (by simp only [List.getElem?_toArray, List.getElem?_cons_zero, List.getElem?_cons_succ]; rfl) (by kernel_rfl) (by kernel_rfl) (by kernel_rfl) (by exact fun _ _ _ h => h) (yieldsIf_build (by kernel_rfl) _ _ rfl _ (by simp only [List.map_toArray, List.map_cons, List.map_nil]; exact builtP a1 a2 _ _ _ _)) hS ?_
                      try simp only [Act.put, List.setIfInBounds_toArray, List.set_cons_zero, List.set_cons_succ]
                      refine wpAnyH_ready (rs := [16]) (by kernel_rfl) (by simp) ?_
                      refine AllReadyH.cons (by simp only [List.getElem?_toArray, List.getElem?_cons_zero, List.getElem?_cons_succ]; rfl) (fun K hK => ?_) AllReadyH.nil
                      refine r_buildP _ rfl (by kernel_rfl) a1 a2 _ _ _ _ rfl ?_
                      have be : Below w4.heap.size w4 (w4.alloc (.cells #[.slice a1 si.length c1', .slice a2 sj.length c2'] 94)) := (Below.refl _ _).alloc (Nat.le_refl _) _
                      have b9 : Below wr2.heap.size wr2 (w4.alloc (.cells #[.slice a1 si.length c1', .slice a2 sj.length c2'] 94)) := HHT4.out.below.trans (be.mono HHT4.out.below.size)
                      have HO : Hid ((w4.alloc (.cells #[.slice a1 si.length c1', .slice a2 sj.length c2'] 94)).ownsRow w.heap.size 94 2 u3 P2.length (P2.flatMap PR.enc) ∧ w.heap.size ≤ w4.heap.size) := ⟨(HA2.out.step b9).own, Nat.le_trans HA2.out.below.size HHT4.out.below.size⟩
                      refine hK.out _ _ (Turn.of_below b9) (fun hS => ?_)
                      clear hK K be b9
                      try simp only [Act.put, List.setIfInBounds_toArray, List.set_cons_zero, List.set_cons_succ]
                      refine wpAnyH_ready (rs := [17]) (by kernel_rfl) (by simp) ?_
                      refine AllReadyH.cons (by simp only [List.getElem?_toArray, List.getElem?_cons_zero, List.getElem?_cons_succ]; rfl) (fun K hK => ?_) AllReadyH.nil
                      obtain ⟨i0, hi0, hz0, hz1, hz2⟩ := info_parts infoP
                      refine step_append_lies _ (by rfl) _ _ 35 rfl w.heap.size 94 i0 _ 2 48 Tryz.underlying35 hi0 hz0 hz1 hz2 (by rfl) (by decide) u3 P2.length (P2.flatMap PR.enc) rfl HO.out.1 ⟨w4.heap.size, 0, none⟩ 1 1 [.slice a1 si.length c1', .slice a2 sj.length c2'] rfl (by rfl) (World.news_of_block (cs := #[.slice a1 si.length c1', .slice a2 sj.length c2']) (t := 94) (fr := (0, 0)) (heap_alloc_new _ _)) (by simp [Value.oneCell']) (by decide) (by have := HA.out.2.2; unfold maxLen; omega) (by have := HA.out.2.2; omega) (by have := HO.out.2; simp; omega) _ rfl ?_
                      intro g9 cap9 w9 own9 gr9 at9 lt9
                      obtain ⟨hA9, T9⟩ := HA2.out.push2 HHT4.out HKO.out.1 HKO.out.2 own9 gr9
                      have HA9 : Hid (PAcc w w9 (.slice (some ⟨g9, 0, none⟩) (P2.length + 1) cap9) (P2 ++ [(⟨.slice a1 si.length c1', si, .slice a2 sj.length c2', sj⟩ : PR)]) ∧ Part κ (Q.map FG.s) i (j + 1) ((P2 ++ [(⟨.slice a1 si.length c1', si, .slice a2 sj.length c2', sj⟩ : PR)]).map PR.ab)) := ⟨hA9, by
                        rw [List.map_append]
                        refine HA.out.2.1.add HR.out (a := si) (b := sj) (by rw [HSE.out.1]; exact HIX.out i qi HQI.out) (by rw [HSE.out.2]; exact HIX.out j qj HQJ.out) HIJ.out (by rw [HSE.out.1, HSE.out.2, ← HJ.out.2.1, ← HE.out.2]; exact HQ.out) (fun m c hm hc => ?_)
                        rw [HSE.out.1]
                        exact HL.out m hm c hc⟩
                      refine hK.out _ _ T9 (fun hS => ?_)
                      clear hK K hA9 T9 own9 gr9 at9 lt9 hi0 hz0 hz1 hz2 HO HCE HV HHT4 HA HA2
                      try simp only [Act.put, List.setIfInBounds_toArray, List.set_cons_zero, List.set_cons_succ]
                      refine wpAnyH_take (i := 18) (v := (.slice (some ⟨g9, 0, none⟩) (P2.length + 1) cap9)) (by simp only [List.getElem?_toArray, List.getElem?_cons_zero, List.getElem?_cons_succ]; rfl) (by kernel_rfl) (by kernel_rfl) (by kernel_rfl) (by exact fun _ _ _ h => h) (y_assign (by kernel_rfl) _ rfl _ rfl) hS ?_
                      try simp only [Act.put, List.setIfInBounds_toArray, List.set_cons_zero, List.set_cons_succ]
                      refine wpAnyH_done (by kernel_rfl) ?_ _
                      clear hS
                      go_wp2_with fail
                      go_roundg (Q.length - (j + 1))
                      case measure => omega
                      case rel => exact ⟨j + 1, _, by omega, hjq, rfl, by go_num, HA9.out.1, HA9.out.2⟩
                    · skip
                      go_simp
                      obtain ⟨w5, hw5⟩ : ∃ w5, w5 = w1.alloc (.cells #[] 5) := ⟨_, rfl⟩
                      obtain ⟨x2, hx2⟩ : ∃ x2, x2 = w1.heap.size := ⟨_, rfl⟩
                      have HT5 := HHT1.out.swap.lay.swap
                      rw [← hw5, ← hx2] at HT5
                      rw [← hw5, ← hx2]
                      clear hw5 hx2 HHT1
                      have HHT5 : Hid (TwoRows wr2 w5 _ _ _ _ _ _) := HT5
                      clear HT5
                      refine hK.out _ _ (Turn.of_below HHT5.out.below) (fun hS => ?_)
                      clear hK K
                      try simp only [Act.put, List.setIfInBounds_toArray, List.set_cons_zero, List.set_cons_succ]
                      refine wpAnyH_ready (rs := [7]) (by kernel_rfl) (by simp) ?_
                      refine AllReadyH.cons (by simp only [List.getElem?_toArray, List.getElem?_cons_zero, List.getElem?_cons_succ]; rfl) (fun K hK => ?_) AllReadyH.nil
                      refine step_append_bytes_at (by rfl) _ _ rfl wr2.heap.size _ 0 [] rfl HHT5.out.o1 pi gi 0 ci si rfl (HV.out _ HHT5.out.below).1 HNL.out.1 (by have := HSL.out; omega) HHT5.out.below.size ?_
                      intro v1 w6 own gr at_
                      have own' : w6.ownsRow wr2.heap.size 5 1 v1 si.length (bv si) := by simpa using own
                      have HT6 := HHT5.out.grow own' gr at_
                      obtain ⟨a1, c1', rfl⟩ := own_slice own'
                      have HHT6 : Hid (TwoRows wr2 w6 _ _ _ _ _ _) := HT6
                      clear own own' gr at_ HT6 HHT5
                      refine hK.out _ _ (Turn.of_below HHT6.out.below) (fun hS => ?_)
                      clear hK K
                      try simp only [Act.put, List.setIfInBounds_toArray, List.set_cons_zero, List.set_cons_succ]
                      refine wpAnyH_ready (rs := [14]) (by kernel_rfl) (by simp) ?_
                      refine AllReadyH.cons (by simp only [List.getElem?_toArray, List.getElem?_cons_zero, List.getElem?_cons_succ]; rfl) (fun K hK => ?_) AllReadyH.nil
                      refine step_append_bytes_at (by rfl) _ _ rfl wr2.heap.size _ 0 [] rfl HHT6.out.o2 pj gj 0 cj sj rfl (HV.out _ HHT6.out.below).2 HNL.out.2 (by have := HSL.out; omega) HHT6.out.below.size ?_
                      intro v2 w7 own gr at_
                      have own' : w7.ownsRow wr2.heap.size 5 1 v2 sj.length (bv sj) := by simpa using own
                      have HT7 := (HHT6.out.swap.grow own' gr at_).swap
                      obtain ⟨a2, c2', rfl⟩ := own_slice own'
                      have HHT7 : Hid (TwoRows wr2 w7 _ _ _ _ _ _) := HT7
                      clear own own' gr at_ HT7 HHT6
                      refine hK.out _ _ (Turn.of_below HHT7.out.below) (fun hS => ?_)
                      clear hK K
                      try simp only [Act.put, List.setIfInBounds_toArray, List.set_cons_zero, List.set_cons_succ]
                      refine wpAnyH_take (i := 15) (v := (.agg #[.slice a1 si.length c1', .slice a2 sj.length c2'])) (by simp only [List.getElem?_toArray, List.getElem?_cons_zero, List.getElem?_cons_succ]; rfl) (by kernel_rfl) (by kernel_rfl) (by kernel_rfl) (by exact fun _ _ _ h => h) (yieldsIf_build (by kernel_rfl) _ _ rfl _ (by simp only [List.map_toArray, List.map_cons, List.map_nil]; exact builtP a1 a2 _ _ _ _)) hS ?_
                      try simp only [Act.put, List.setIfInBounds_toArray, List.set_cons_zero, List.set_cons_succ]
                      refine wpAnyH_ready (rs := [16]) (by kernel_rfl) (by simp) ?_
                      refine AllReadyH.cons (by simp only [List.getElem?_toArray, List.getElem?_cons_zero, List.getElem?_cons_succ]; rfl) (fun K hK => ?_) AllReadyH.nil
                      refine r_buildP _ rfl (by kernel_rfl) a1 a2 _ _ _ _ rfl ?_
                      have be : Below w7.heap.size w7 (w7.alloc (.cells #[.slice a1 si.length c1', .slice a2 sj.length c2'] 94)) := (Below.refl _ _).alloc (Nat.le_refl _) _
                      have b9 : Below wr2.heap.size wr2 (w7.alloc (.cells #[.slice a1 si.length c1', .slice a2 sj.length c2'] 94)) := HHT7.out.below.trans (be.mono HHT7.out.below.size)
                      have HO : Hid ((w7.alloc (.cells #[.slice a1 si.length c1', .slice a2 sj.length c2'] 94)).ownsRow w.heap.size 94 2 u3 P2.length (P2.flatMap PR.enc) ∧ w.heap.size ≤ w7.heap.size) := ⟨(HA2.out.step b9).own, Nat.le_trans HA2.out.below.size HHT7.out.below.size⟩
                      refine hK.out _ _ (Turn.of_below b9) (fun hS => ?_)
                      clear hK K be b9
                      try simp only [Act.put, List.setIfInBounds_toArray, List.set_cons_zero, List.set_cons_succ]
                      refine wpAnyH_ready (rs := [17]) (by kernel_rfl) (by simp) ?_
                      refine AllReadyH.cons (by simp only [List.getElem?_toArray, List.getElem?_cons_zero, List.getElem?_cons_succ]; rfl) (fun K hK => ?_) AllReadyH.nil
                      obtain ⟨i0, hi0, hz0, hz1, hz2⟩ := info_parts infoP
                      refine step_append_lies _ (by rfl) _ _ 35 rfl w.heap.size 94 i0 _ 2 48 Tryz.underlying35 hi0 hz0 hz1 hz2 (by rfl) (by decide) u3 P2.length (P2.flatMap PR.enc) rfl HO.out.1 ⟨w7.heap.size, 0, none⟩ 1 1 [.slice a1 si.length c1', .slice a2 sj.length c2'] rfl (by rfl) (World.news_of_block (cs := #[.slice a1 si.length c1', .slice a2 sj.length c2']) (t := 94) (fr := (0, 0)) (heap_alloc_new _ _)) (by simp [Value.oneCell']) (by decide) (by have := HA.out.2.2; unfold maxLen; omega) (by have := HA.out.2.2; omega) (by have := HO.out.2; simp; omega) _ rfl ?_
                      intro g9 cap9 w9 own9 gr9 at9 lt9
                      obtain ⟨hA9, T9⟩ := HA2.out.push2 HHT7.out HKO.out.1 HKO.out.2 own9 gr9
                      have HA9 : Hid (PAcc w w9 (.slice (some ⟨g9, 0, none⟩) (P2.length + 1) cap9) (P2 ++ [(⟨.slice a1 si.length c1', si, .slice a2 sj.length c2', sj⟩ : PR)]) ∧ Part κ (Q.map FG.s) i (j + 1) ((P2 ++ [(⟨.slice a1 si.length c1', si, .slice a2 sj.length c2', sj⟩ : PR)]).map PR.ab)) := ⟨hA9, by
                        rw [List.map_append]
                        refine HA.out.2.1.add HR.out (a := si) (b := sj) (by rw [HSE.out.1]; exact HIX.out i qi HQI.out) (by rw [HSE.out.2]; exact HIX.out j qj HQJ.out) HIJ.out (by rw [HSE.out.1, HSE.out.2, ← HJ.out.2.1, ← HE.out.2]; exact HQ.out) (fun m c hm hc => ?_)
                        rw [HSE.out.1]
                        exact HL.out m hm c hc⟩
                      refine hK.out _ _ T9 (fun hS => ?_)
                      clear hK K hA9 T9 own9 gr9 at9 lt9 hi0 hz0 hz1 hz2 HO HCE HV HHT7 HA HA2
                      try simp only [Act.put, List.setIfInBounds_toArray, List.set_cons_zero, List.set_cons_succ]
                      refine wpAnyH_take (i := 18) (v := (.slice (some ⟨g9, 0, none⟩) (P2.length + 1) cap9)) (by simp only [List.getElem?_toArray, List.getElem?_cons_zero, List.getElem?_cons_succ]; rfl) (by kernel_rfl) (by kernel_rfl) (by kernel_rfl) (by exact fun _ _ _ h => h) (y_assign (by kernel_rfl) _ rfl _ rfl) hS ?_
                      try simp only [Act.put, List.setIfInBounds_toArray, List.set_cons_zero, List.set_cons_succ]
                      refine wpAnyH_done (by kernel_rfl) ?_ _
                      clear hS
                      go_wp2_with fail
                      go_roundg (Q.length - (j + 1))
                      case measure => omega
                      case rel => exact ⟨j + 1, _, by omega, hjq, rfl, by go_num, HA9.out.1, HA9.out.2⟩
                  · skip
                    go_simp
                    obtain ⟨w8, hw8⟩ : ∃ w8, w8 = wd.alloc (.cells #[] 5) := ⟨_, rfl⟩
                    obtain ⟨x2, hx2⟩ : ∃ x2, x2 = wd.heap.size := ⟨_, rfl⟩
                    have HT8 := HT0.out.swap.lay.swap
                    rw [← hw8, ← hx2] at HT8
                    rw [← hw8, ← hx2]
                    clear hw8 hx2 HT0
                    have HHT8 : Hid (TwoRows wr2 w8 _ _ _ _ _ _) := HT8
                    clear HT8
                    refine hK.out _ _ (Turn.of_below HHT8.out.below) (fun hS => ?_)
                    clear hK K
                    try simp only [Act.put, List.setIfInBounds_toArray, List.set_cons_zero, List.set_cons_succ]
                    refine wpAnyH_ready (rs := [1]) (by kernel_rfl) (by simp) ?_
                    refine AllReadyH.cons (by simp only [List.getElem?_toArray, List.getElem?_cons_zero, List.getElem?_cons_succ]; rfl) (fun K hK => ?_) AllReadyH.nil
                    go_simp
                    obtain ⟨w9, hw9⟩ : ∃ w9, w9 = w8.alloc (.cells #[] 5) := ⟨_, rfl⟩
                    obtain ⟨x1, hx1⟩ : ∃ x1, x1 = w8.heap.size := ⟨_, rfl⟩
                    have HT9 := HHT8.out.lay
                    rw [← hw9, ← hx1] at HT9
                    rw [← hw9, ← hx1]
                    clear hw9 hx1 HHT8
                    have HHT9 : Hid (TwoRows wr2 w9 _ _ _ _ _ _) := HT9
                    clear HT9
                    refine hK.out _ _ (Turn.of_below HHT9.out.below) (fun hS => ?_)
                    clear hK K
                    try simp only [Act.put, List.setIfInBounds_toArray, List.set_cons_zero, List.set_cons_succ]
                    refine wpAnyH_ready (rs := [7]) (by kernel_rfl) (by simp) ?_
                    refine AllReadyH.cons (by simp only [List.getElem?_toArray, List.getElem?_cons_zero, List.getElem?_cons_succ]; rfl) (fun K hK => ?_) AllReadyH.nil
                    refine step_append_bytes_at (by rfl) _ _ rfl wr2.heap.size _ 0 [] rfl HHT9.out.o1 pi gi 0 ci si rfl (HV.out _ HHT9.out.below).1 HNL.out.1 (by have := HSL.out; omega) HHT9.out.below.size ?_
                    intro v1 w10 own gr at_
                    have own' : w10.ownsRow wr2.heap.size 5 1 v1 si.length (bv si) := by simpa using own
                    have HT10 := HHT9.out.grow own' gr at_
                    obtain ⟨a1, c1', rfl⟩ := own_slice own'
                    have HHT10 : Hid (TwoRows wr2 w10 _ _ _ _ _ _) := HT10
                    clear own own' gr at_ HT10 HHT9
                    refine hK.out _ _ (Turn.of_below HHT10.out.below) (fun hS => ?_)
                    clear hK K
                    try simp only [Act.put, List.setIfInBounds_toArray, List.set_cons_zero, List.set_cons_succ]
                    refine wpAnyH_ready (rs := [14]) (by kernel_rfl) (by simp) ?_
                    refine AllReadyH.cons (by simp only [List.getElem?_toArray, List.getElem?_cons_zero, List.getElem?_cons_succ]; rfl) (fun K hK => ?_) AllReadyH.nil
                    refine step_append_bytes_at (by rfl) _ _ rfl wr2.heap.size _ 0 [] rfl HHT10.out.o2 pj gj 0 cj sj rfl (HV.out _ HHT10.out.below).2 HNL.out.2 (by have := HSL.out; omega) HHT10.out.below.size ?_
                    intro v2 w11 own gr at_
                    have own' : w11.ownsRow wr2.heap.size 5 1 v2 sj.length (bv sj) := by simpa using own
                    have HT11 := (HHT10.out.swap.grow own' gr at_).swap
                    obtain ⟨a2, c2', rfl⟩ := own_slice own'
                    have HHT11 : Hid (TwoRows wr2 w11 _ _ _ _ _ _) := HT11
                    clear own own' gr at_ HT11 HHT10
                    refine hK.out _ _ (Turn.of_below HHT11.out.below) (fun hS => ?_)
                    clear hK K
                    try simp only [Act.put, List.setIfInBounds_toArray, List.set_cons_zero, List.set_cons_succ]
                    refine wpAnyH_take (i := 15) (v := (.agg #[.slice a1 si.length c1', .slice a2 sj.length c2'])) (by simp only [List.getElem?_toArray, List.getElem?_cons_zero, List.getElem?_cons_succ]; rfl) (by kernel_rfl) (by kernel_rfl) (by kernel_rfl) (by exact fun _ _ _ h => h) (yieldsIf_build (by kernel_rfl) _ _ rfl _ (by simp only [List.map_toArray, List.map_cons, List.map_nil]; exact builtP a1 a2 _ _ _ _)) hS ?_
                    try simp only [Act.put, List.setIfInBounds_toArray, List.set_cons_zero, List.set_cons_succ]
                    refine wpAnyH_ready (rs := [16]) (by kernel_rfl) (by simp) ?_
                    refine AllReadyH.cons (by simp only [List.getElem?_toArray, List.getElem?_cons_zero, List.getElem?_cons_succ]; rfl) (fun K hK => ?_) AllReadyH.nil
                    refine r_buildP _ rfl (by kernel_rfl) a1 a2 _ _ _ _ rfl ?_
                    have be : Below w11.heap.size w11 (w11.alloc (.cells #[.slice a1 si.length c1', .slice a2 sj.length c2'] 94)) := (Below.refl _ _).alloc (Nat.le_refl _) _
                    have b9 : Below wr2.heap.size wr2 (w11.alloc (.cells #[.slice a1 si.length c1', .slice a2 sj.length c2'] 94)) := HHT11.out.below.trans (be.mono HHT11.out.below.size)
                    have HO : Hid ((w11.alloc (.cells #[.slice a1 si.length c1', .slice a2 sj.length c2'] 94)).ownsRow w.heap.size 94 2 u3 P2.length (P2.flatMap PR.enc) ∧ w.heap.size ≤ w11.heap.size) := ⟨(HA2.out.step b9).own, Nat.le_trans HA2.out.below.size HHT11.out.below.size⟩
                    refine hK.out _ _ (Turn.of_below b9) (fun hS => ?_)
                    clear hK K be b9
                    try simp only [Act.put, List.setIfInBounds_toArray, List.set_cons_zero, List.set_cons_succ]
                    refine wpAnyH_ready (rs := [17]) (by kernel_rfl) (by simp) ?_
                    refine AllReadyH.cons (by simp only [List.getElem?_toArray, List.getElem?_cons_zero, List.getElem?_cons_succ]; rfl) (fun K hK => ?_) AllReadyH.nil
                    obtain ⟨i0, hi0, hz0, hz1, hz2⟩ := info_parts infoP
                    refine step_append_lies _ (by rfl) _ _ 35 rfl w.heap.size 94 i0 _ 2 48 Tryz.underlying35 hi0 hz0 hz1 hz2 (by rfl) (by decide) u3 P2.length (P2.flatMap PR.enc) rfl HO.out.1 ⟨w11.heap.size, 0, none⟩ 1 1 [.slice a1 si.length c1', .slice a2 sj.length c2'] rfl (by rfl) (World.news_of_block (cs := #[.slice a1 si.length c1', .slice a2 sj.length c2']) (t := 94) (fr := (0, 0)) (heap_alloc_new _ _)) (by simp [Value.oneCell']) (by decide) (by have := HA.out.2.2; unfold maxLen; omega) (by have := HA.out.2.2; omega) (by have := HO.out.2; simp; omega) _ rfl ?_
                    intro g9 cap9 w9 own9 gr9 at9 lt9
                    obtain ⟨hA9, T9⟩ := HA2.out.push2 HHT11.out HKO.out.1 HKO.out.2 own9 gr9
                    have HA9 : Hid (PAcc w w9 (.slice (some ⟨g9, 0, none⟩) (P2.length + 1) cap9) (P2 ++ [(⟨.slice a1 si.length c1', si, .slice a2 sj.length c2', sj⟩ : PR)]) ∧ Part κ (Q.map FG.s) i (j + 1) ((P2 ++ [(⟨.slice a1 si.length c1', si, .slice a2 sj.length c2', sj⟩ : PR)]).map PR.ab)) := ⟨hA9, by
                      rw [List.map_append]
                      refine HA.out.2.1.add HR.out (a := si) (b := sj) (by rw [HSE.out.1]; exact HIX.out i qi HQI.out) (by rw [HSE.out.2]; exact HIX.out j qj HQJ.out) HIJ.out (by rw [HSE.out.1, HSE.out.2, ← HJ.out.2.1, ← HE.out.2]; exact HQ.out) (fun m c hm hc => ?_)
                      rw [HSE.out.1]
                      exact HL.out m hm c hc⟩
                    refine hK.out _ _ T9 (fun hS => ?_)
                    clear hK K hA9 T9 own9 gr9 at9 lt9 hi0 hz0 hz1 hz2 HO HCE HV HHT11 HA HA2
                    try simp only [Act.put, List.setIfInBounds_toArray, List.set_cons_zero, List.set_cons_succ]
                    refine wpAnyH_take (i := 18) (v := (.slice (some ⟨g9, 0, none⟩) (P2.length + 1) cap9)) (by simp only [List.getElem?_toArray, List.getElem?_cons_zero, List.getElem?_cons_succ]; rfl) (by kernel_rfl) (by kernel_rfl) (by kernel_rfl) (by exact fun _ _ _ h => h) (y_assign (by kernel_rfl) _ rfl _ rfl) hS ?_
                    try simp only [Act.put, List.setIfInBounds_toArray, List.set_cons_zero, List.set_cons_succ]
                    refine wpAnyH_done (by kernel_rfl) ?_ _
                    clear hS
                    go_wp2_with fail
                    go_roundg (Q.length - (j + 1))
                    case measure => omega
                    case rel => exact ⟨j + 1, _, by omega, hjq, rfl, by go_num, HA9.out.1, HA9.out.2⟩
                · skip
                  have HQ : Hid (kj ≠ ki) := q
                  clear q
                  have eqk : ∀ w0 : World, (Op.equalIn 10000 31 (.agg (hA kj)) (.agg (hA ki))).run Tryz.prog w0 = .ok false w0 := fun w0 => by rw [eqH_any w0 _ _ HJ.out.2.2 HKI.out, decide_eq_false HQ.out]
                  go_wp2_with fail
                  have bd : Below wr.heap.size wr wr.drew := (Turn.drew (F := fun _ => False) wr).below (fun _ f => f.elim) (Nat.le_refl _)
                  have HBD : Hid (Below wr.heap.size wr wr.drew) := bd
                  have s0 : (fun v => v.rangeAt g (j * 33 + 1) (bv kj) ∧ v.rangeAt g (i * 33 + 1) (bv ki)) wr.drew := HRR.out _ bd
                  refine wp_region_held_drew (S := fun v => v.rangeAt g (j * 33 + 1) (bv kj) ∧ v.rangeAt g (i * 33 + 1) (bv ki)) (by kernel_rfl) s0 ?_
                  intro hS
                  clear s0 bd
                  change wpAnyH _ _ _ _ _ 11 _ _ _
                  generalize wr.drew = wd at hS HBD ⊢
                  refine wpAnyH_take (i := 0) (v := (.slice (some ⟨g, 0, none⟩) Q.length cv)) (by simp only [List.getElem?_toArray, List.getElem?_cons_zero]; rfl) (by kernel_rfl) (by kernel_rfl) (by kernel_rfl) (by exact fun _ _ _ h => h) (y_move (by kernel_rfl) _ rfl _ rfl) hS ?_
                  try simp only [Act.put, List.setIfInBounds_toArray, List.set_cons_zero, List.set_cons_succ]
                  refine wpAnyH_take (i := 1) (v := (.int .i64 (j : Nat))) (by simp only [List.getElem?_toArray, List.getElem?_cons_zero, List.getElem?_cons_succ]; rfl) (by kernel_rfl) (by kernel_rfl) (by kernel_rfl) (by exact fun _ _ _ h => h) (y_move (by kernel_rfl) _ rfl _ rfl) hS ?_
                  try simp only [Act.put, List.setIfInBounds_toArray, List.set_cons_zero, List.set_cons_succ]
                  refine wpAnyH_take (i := 2) (v := (.pointer (some ⟨g, j * 33, none⟩))) (by simp only [List.getElem?_toArray, List.getElem?_cons_zero, List.getElem?_cons_succ]; rfl) (by kernel_rfl) (by kernel_rfl) (by kernel_rfl) (by exact fun _ _ _ h => h) (y_indexN (by kernel_rfl) _ _ rfl g Q.length cv j rfl rfl hjq) hS ?_
                  try simp only [Act.put, List.setIfInBounds_toArray, List.set_cons_zero, List.set_cons_succ]
                  refine wpAnyH_take (i := 3) (v := (.pointer (some ⟨g, j * 33 + 1, none⟩))) (by simp only [List.getElem?_toArray, List.getElem?_cons_zero, List.getElem?_cons_succ]; rfl) (by kernel_rfl) (by kernel_rfl) (by kernel_rfl) (by exact fun _ _ _ h => h) (y_fieldN (by kernel_rfl) _ 1 rfl g (j * 33) rfl (by decide)) hS ?_
                  try simp only [Act.put, List.setIfInBounds_toArray, List.set_cons_zero, List.set_cons_succ]
                  refine wpAnyH_take (i := 4) (v := (.agg (hA kj))) (by simp only [List.getElem?_toArray, List.getElem?_cons_zero, List.getElem?_cons_succ]; rfl) (by kernel_rfl) (by kernel_rfl) (by kernel_rfl) (by exact fun _ _ _ h => h) (yieldsIf_load_mid (by kernel_rfl) _ _ rfl g (j * 33 + 1) rfl _ _ (fun v hs => hs.1) Tryz.underlying31 rfl (hL_len HJ.out.2.2)) hS ?_
                  try simp only [Act.put, List.setIfInBounds_toArray, List.set_cons_zero, List.set_cons_succ]
                  refine wpAnyH_take (i := 5) (v := (.slice (some ⟨g, 0, none⟩) Q.length cv)) (by simp only [List.getElem?_toArray, List.getElem?_cons_zero, List.getElem?_cons_succ]; rfl) (by kernel_rfl) (by kernel_rfl) (by kernel_rfl) (by exact fun _ _ _ h => h) (y_move (by kernel_rfl) _ rfl _ rfl) hS ?_
                  try simp only [Act.put, List.setIfInBounds_toArray, List.set_cons_zero, List.set_cons_succ]
                  refine wpAnyH_take (i := 6) (v := (.int .i64 (i : Nat))) (by simp only [List.getElem?_toArray, List.getElem?_cons_zero, List.getElem?_cons_succ]; rfl) (by kernel_rfl) (by kernel_rfl) (by kernel_rfl) (by exact fun _ _ _ h => h) (y_move (by kernel_rfl) _ rfl _ rfl) hS ?_
                  try simp only [Act.put, List.setIfInBounds_toArray, List.set_cons_zero, List.set_cons_succ]
                  refine wpAnyH_take (i := 7) (v := (.pointer (some ⟨g, i * 33, none⟩))) (by simp only [List.getElem?_toArray, List.getElem?_cons_zero, List.getElem?_cons_succ]; rfl) (by kernel_rfl) (by kernel_rfl) (by kernel_rfl) (by exact fun _ _ _ h => h) (y_indexN (by kernel_rfl) _ _ rfl g Q.length cv i rfl rfl HIQ.out) hS ?_
                  try simp only [Act.put, List.setIfInBounds_toArray, List.set_cons_zero, List.set_cons_succ]
                  refine wpAnyH_take (i := 8) (v := (.pointer (some ⟨g, i * 33 + 1, none⟩))) (by simp only [List.getElem?_toArray, List.getElem?_cons_zero, List.getElem?_cons_succ]; rfl) (by kernel_rfl) (by kernel_rfl) (by kernel_rfl) (by exact fun _ _ _ h => h) (y_fieldN (by kernel_rfl) _ 1 rfl g (i * 33) rfl (by decide)) hS ?_
                  try simp only [Act.put, List.setIfInBounds_toArray, List.set_cons_zero, List.set_cons_succ]
                  refine wpAnyH_take (i := 9) (v := (.agg (hA ki))) (by simp only [List.getElem?_toArray, List.getElem?_cons_zero, List.getElem?_cons_succ]; rfl) (by kernel_rfl) (by kernel_rfl) (by kernel_rfl) (by exact fun _ _ _ h => h) (yieldsIf_load_mid (by kernel_rfl) _ _ rfl g (i * 33 + 1) rfl _ _ (fun v hs => hs.2) Tryz.underlying31 rfl (hL_len HKI.out)) hS ?_
                  try simp only [Act.put, List.setIfInBounds_toArray, List.set_cons_zero, List.set_cons_succ]
                  refine wpAnyH_take (i := 10) (v := (.bool false)) (by simp only [List.getElem?_toArray, List.getElem?_cons_zero, List.getElem?_cons_succ]; rfl) (by kernel_rfl) (by kernel_rfl) (by kernel_rfl) (by exact fun _ _ _ h => h) (y_eqlH (by kernel_rfl) _ _ rfl _ _ rfl rfl _ eqk) hS ?_
                  try simp only [Act.put, List.setIfInBounds_toArray, List.set_cons_zero, List.set_cons_succ]
                  refine wpAnyH_done (by kernel_rfl) ?_ _
                  have HA2 : Hid (PAcc w wd u3 P2) := HA.out.1.step HBD.out
                  clear hS eqk HRR
                  go_wp2_with fail
                  go_roundg (Q.length - (j + 1))
                  case measure => omega
                  case rel => exact ⟨j + 1, P2, by omega, hjq, rfl, by go_num, HA2.out, HA.out.2.1.skip HR.out (HIX.out i qi HQI.out) (HIX.out j qj HQJ.out) (by rw [← HJ.out.2.1, ← HE.out.2]; exact HQ.out)⟩
              · have ej : j = Q.length := by omega
                have i3 : ¬ ((j : Int) < (Q.length : Int)) := by omega
                have hp := HA.out.2.1
                rw [ej, ← HLL.out] at hp
                have HB : Hid (PAcc w wr u3 P2 ∧ Part κ (Q.map FG.s) (i + 1) 0 (P2.map PR.ab)) := ⟨HA.out.1, hp.next HR.out⟩
                clear hp HA
                go_wp2_with fail
                go_roundg (Q.length - (i + 1))
                case measure => omega
                case rel => exact ⟨i + 1, P2, HIQ.out, rfl, by go_num, HB.out.1, HB.out.2⟩
          · have HL : Hid (¬ ∀ m, m < j → ∀ c, (Q.map FG.s)[m]? = some c → κ c ≠ κ qi.s) := hl
            rw [decide_eq_false hl]
            clear hl
            have HP1 : Hid (Part κ (Q.map FG.s) (j + 1) 0 (P.map PR.ab)) := by
              have hl := HL.out
              simp only [Classical.not_forall, Classical.not_not] at hl
              obtain ⟨m, hm, c, hc, e⟩ := hl
              exact HP.out.pass HR.out (HIX.out j qi HQI.out) hm hc e
            obtain ⟨i, ei⟩ : ∃ i, i = j := ⟨_, rfl⟩
            subst ei
            go_wp2_with fail
            go_loopg [3, 7] 0 (fun gg v jj wq => gg = 0 ∧ jj = .int .i64 ((i : Int) + 1) ∧ PAcc w wq v P)
            case atStart => exact ⟨rfl, by go_num, HA.out⟩
            case round =>
              obtain ⟨rfl, rfl, hA2⟩ := hrel
              have HA2 : Hid (PAcc w wr u3 P) := hA2
              clear hA2 HA
              by_cases i3 : (i : Int) + 1 < (Q.length : Int)
              · go_wp2_with fail
                go_roundg (Q.length - (i + 1))
                case measure => omega
                case rel => exact ⟨i + 1, P, HIQ.out, rfl, by go_num, HA2.out, HP1.out⟩
              · go_wp2_with fail
                go_roundg (Q.length - (i + 1))
                case measure => omega
                case rel => exact ⟨i + 1, P, HIQ.out, rfl, by go_num, HA2.out, HP1.out⟩
    · have ei : i = Q.length := by omega
      have i1 : ¬ ((i : Int) < (Q.length : Int)) := by omega
      rw [ei, ← HLL.out] at hP
      have HB : Hid (PAcc w wr u3 P ∧ P.map PR.ab = pairsL κ (Q.map FG.s)) := ⟨pA, hP.done HR.out⟩
      clear pA hP ei
      go_wp2_with fail
      go_ret
      exact ⟨u3, rfl, P, HB.out.1, HB.out.2⟩
end Go.Proofs.YtlhllbggnpcoaaaGreatDoor
